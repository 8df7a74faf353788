"""The limits of the document, and whether a value keeps to them."""

FEWEST_SITES = 2
MOST_SITES = 4
MOST_MESSAGES = 60
LONGEST_PAYLOAD = 16
LARGEST_OCTET = 255
MOST_DUPLICATED = 100
LONGEST_READ = 40


def is_site_number(number):
    return 1 <= number <= MOST_SITES


def is_octet(value):
    return 0 <= value <= LARGEST_OCTET


def is_payload(row):
    return len(row) <= LONGEST_PAYLOAD and all([is_octet(value) for value in row])


def is_copy_number(number):
    return 0 <= number <= 1


def is_message_number(number):
    return 1 <= number <= MOST_MESSAGES


# For the number of an acknowledgement, too, which is a count of messages.
def is_message_count(count):
    return 0 <= count <= MOST_MESSAGES
