"""Reading the one list of whole numbers in which the calls of a request are handed in."""

# How many whole numbers each operation has, by its number, from create_sites to totals.
NUMBER_COUNTS = (1, 2, 1, 1, 1, 2, 1, 1, 1, 3, 4, 3, 2, 0, 1, 4, 0, 0, 0, 0)

# The operations that also have a list, with its length ahead: post, write_packet and read_packet.
WITH_LIST = (1, 15, 16)


class Call:
    def __init__(self, operation, numbers, row):
        self.operation = operation
        self.numbers = numbers
        self.row = row


def split_calls(calls):
    found = []
    place = 0
    while place < len(calls):
        operation = calls[place]
        end = place + 1 + NUMBER_COUNTS[operation]
        numbers = calls[place + 1:end]
        row = []
        if operation in WITH_LIST:
            start = end + 1
            end = start + calls[end]
            row = calls[start:end]
        found.append(Call(operation, numbers, row))
        place = end
    return found
