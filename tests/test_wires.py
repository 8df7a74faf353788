import unittest

from tests.asking import (
    LARGE, ask, ask_after, at_risk, crash, create_sites, damage, deliver, duplicate, lose, post, sync, transmit,
    with_checksum,
)

TWO = [create_sites(2)]
POSTED = TWO + [post(1, 2, [104, 105])]
# On the wires: message 1 from 1 to 2, and an acknowledgement of 0.
ONE_SENT = POSTED + [sync(1), transmit(1, 2)]
# On the wires: the messages 1 to 3 from 1 to 2, and an acknowledgement of 0.
THREE_SENT = TWO + [post(1, 2, [10]), post(1, 2, []), post(1, 2, [30]), sync(1), transmit(1, 2)]

FIRST_MESSAGE = [1, 1, 2, 1, 2, 104, 105, 2, 134, 66, 184]
FIRST_ACKNOWLEDGEMENT = [2, 2, 1, 0, 3, 12, 17, 9]


class Transmit(unittest.TestCase):
    def test_nothing_durable(self):
        self.assertEqual(ask_after(POSTED, [transmit(1, 2), lose(0)]), [[0, 0, 0], [0, 0]])

    def test_an_acknowledgement_is_added_even_if_nothing_is_new(self):
        self.assertEqual(ask_after(TWO, [transmit(2, 1), transmit(2, 1), lose(0)]), [[0, 0, 0], [0, 0, 0], [0, 1]])

    def test_only_durable_messages(self):
        calls = POSTED + [sync(1), post(1, 2, [2])]
        self.assertEqual(ask_after(calls, [transmit(1, 2), lose(0)]), [[0, 1, 0], [0, 1]])

    def test_messages_in_increasing_order_and_then_the_acknowledgement(self):
        told = ask_after(THREE_SENT, [deliver(0), deliver(0), deliver(0), deliver(0)])
        self.assertEqual(told, [[0, 1, 1, 2, 1], [0, 1, 1, 2, 2], [0, 1, 1, 2, 3], [0, 5, 1, 2, 0]])

    def test_only_messages_of_the_pair(self):
        calls = [create_sites(3), post(1, 2, [1]), post(1, 3, [2]), post(1, 3, [3]), post(2, 3, [4]), sync(1), sync(2)]
        asked = [transmit(1, 3), transmit(1, 2), transmit(2, 3), transmit(3, 1)]
        self.assertEqual(ask_after(calls, asked), [[0, 2, 0], [0, 1, 0], [0, 1, 0], [0, 0, 0]])

    def test_durable_messages_that_are_not_acknowledged_are_transmitted_again(self):
        calls = ONE_SENT + [deliver(0), sync(2), lose(0)]
        self.assertEqual(ask_after(calls, [transmit(1, 2)]), [[0, 1, 0]])

    def test_messages_are_left_out_when_their_acknowledgement_is_durable(self):
        calls = THREE_SENT + [deliver(0), deliver(0), lose(0), lose(0), sync(2), transmit(2, 1), deliver(0)]
        self.assertEqual(ask_after(calls, [transmit(1, 2)]), [[0, 3, 0]])
        asked = [sync(1), transmit(1, 2), deliver(0), deliver(0)]
        self.assertEqual(ask_after(calls, asked), [[0, 0, 0, 2], [0, 1, 0], [0, 1, 1, 2, 3], [0, 5, 1, 2, 0]])

    def test_all_acknowledged(self):
        calls = ONE_SENT + [deliver(0), lose(0), sync(2), transmit(2, 1), deliver(0), sync(1)]
        self.assertEqual(ask_after(calls, [transmit(1, 2), lose(0)]), [[0, 0, 0], [0, 0]])

    def test_the_acknowledgement_has_the_durable_received_number(self):
        calls = THREE_SENT + [deliver(0), deliver(0), sync(2), deliver(0)]
        self.assertEqual(ask_after(calls, [transmit(2, 1), deliver(1)]), [[0, 0, 2], [0, 4, 2, 1, 2]])
        self.assertEqual(ask_after(calls, [sync(2), transmit(2, 1)]), [[0, 0, 1, 0], [0, 0, 3]])

    def test_messages_and_acknowledgement_together(self):
        calls = THREE_SENT + [deliver(0), post(2, 1, [1]), post(2, 1, [2]), sync(2)]
        asked = [transmit(2, 1), lose(0), lose(0), lose(0), deliver(2), deliver(1), deliver(0)]
        told = [[0, 2, 1], [0, 5], [0, 4], [0, 3], [0, 4, 2, 1, 1], [0, 3, 2, 1, 2], [0, 1, 2, 1, 1]]
        self.assertEqual(ask_after(calls, asked), told)

    def test_sixty_messages(self):
        calls = TWO + [post(1, 2, [1] * 16)] * 60 + [sync(1)]
        self.assertEqual(ask_after(calls, [transmit(1, 2), lose(60), lose(60)]), [[0, 60, 0], [0, 60], [-3]])

    def test_a_message_packet_of_the_pair_is_on_the_wires(self):
        self.assertEqual(ask_after(ONE_SENT, [transmit(1, 2), lose(1), transmit(1, 2)]), [[-8], [0, 1], [-8]])

    def test_an_acknowledgement_of_the_pair_is_no_hindrance(self):
        self.assertEqual(ask_after(ONE_SENT, [lose(0), transmit(1, 2)]), [[0, 1], [0, 1, 0]])

    def test_a_message_packet_of_another_pair_is_no_hindrance(self):
        calls = [create_sites(3), post(1, 2, [1]), post(1, 3, [1]), post(3, 2, [1]), sync(1), sync(3), transmit(1, 2)]
        asked = [transmit(2, 1), transmit(1, 3), transmit(3, 2), transmit(1, 2)]
        self.assertEqual(ask_after(calls, asked), [[0, 0, 0], [0, 1, 0], [0, 1, 0], [-8]])

    def test_a_message_packet_that_came_by_duplicate(self):
        calls = ONE_SENT + [duplicate(0), lose(0)]
        self.assertEqual(ask_after(calls, [transmit(1, 2), lose(1), transmit(1, 2)]), [[-8], [0, 1], [0, 1, 0]])

    def test_a_damaged_message_packet_is_not_readable(self):
        for position, value in ((0, 2), (1, 3), (2, 3), (3, 2), (4, 1), (5, 0), (10, 0)):
            calls = ONE_SENT + [damage(0, position, value)]
            self.assertEqual(ask_after(calls, [transmit(1, 2)]), [[0, 1, 0]])
            self.assertEqual(ask_after(calls, [duplicate(0), transmit(1, 2)]), [[0, 3], [0, 1, 0]])

    def test_a_readable_duplicate_of_a_packet_that_is_damaged_later(self):
        calls = ONE_SENT + [duplicate(0), damage(0, 5, 0)]
        self.assertEqual(ask_after(calls, [transmit(1, 2)]), [[-8]])

    def test_wrong_sites(self):
        for site in (0, 5, -1, LARGE, -LARGE):
            self.assertEqual(ask_after(TWO, [transmit(site, 1), transmit(1, site)]), [[-1], [-1]])
        self.assertEqual(ask_after(TWO, [transmit(3, 1), transmit(1, 4)]), [[-2], [-2]])
        self.assertEqual(ask_after(ONE_SENT, [transmit(1, 1), transmit(2, 2)]), [[-6], [-6]])


class Deliver(unittest.TestCase):
    def test_not_readable(self):
        asked = [deliver(0), at_risk(2), lose(0)]
        for position, value in ((0, 2), (1, 3), (1, 0), (2, 4), (3, 2), (4, 3), (6, 0), (7, 0), (10, 0)):
            calls = ONE_SENT + [damage(0, position, value)]
            self.assertEqual(ask_after(calls, asked), [[0, 0], [0, 0, 0, 0], [0, 0]])

    def test_damaged_acknowledgement(self):
        calls = ONE_SENT + [deliver(0), sync(2), transmit(2, 1), damage(1, 3, 2), deliver(1)]
        self.assertEqual(ask(calls)[-1], [0, 0])
        self.assertEqual(ask_after(calls, [at_risk(1)]), [[0, 0, 0, 0]])

    def test_damaged_duplicates(self):
        calls = ONE_SENT + [damage(0, 3, 2), duplicate(0), duplicate(2)]
        asked = [deliver(3), deliver(2), deliver(0), at_risk(2)]
        self.assertEqual(ask_after(calls, asked), [[0, 0], [0, 0], [0, 0], [0, 0, 0, 0]])

    def test_the_message_is_received(self):
        self.assertEqual(ask_after(ONE_SENT, [deliver(0), at_risk(2)]), [[0, 1, 1, 2, 1], [0, 0, 1, 0]])

    def test_the_message_has_been_received_before(self):
        calls = ONE_SENT + [duplicate(0), deliver(0)]
        self.assertEqual(ask_after(calls, [deliver(1), at_risk(2)]), [[0, 2, 1, 2, 1], [0, 0, 1, 0]])
        calls = THREE_SENT + [duplicate(0), deliver(0), deliver(0), deliver(0)]
        self.assertEqual(ask_after(calls, [deliver(1), at_risk(2)]), [[0, 2, 1, 2, 1], [0, 0, 3, 0]])

    def test_an_earlier_message_has_not_been_received(self):
        asked = [deliver(2), deliver(1), deliver(0), at_risk(2)]
        told = [[0, 3, 1, 2, 3], [0, 3, 1, 2, 2], [0, 1, 1, 2, 1], [0, 0, 1, 0]]
        self.assertEqual(ask_after(THREE_SENT, asked), told)

    def test_a_message_is_wanted_again_after_a_crash(self):
        calls = ONE_SENT + [duplicate(0), deliver(0), crash(2)]
        self.assertEqual(ask_after(calls, [deliver(1), at_risk(2)]), [[0, 1, 1, 2, 1], [0, 0, 1, 0]])

    def test_the_acknowledged_number_increases(self):
        calls = THREE_SENT + [deliver(0), sync(2), transmit(2, 1), deliver(0), deliver(0), sync(2), transmit(2, 1)]
        asked = [deliver(1), at_risk(1), deliver(1), at_risk(1)]
        self.assertEqual(ask_after(calls, asked), [[0, 4, 2, 1, 1], [0, 0, 0, 1], [0, 4, 2, 1, 3], [0, 0, 0, 3]])

    def test_the_acknowledged_number_does_not_change(self):
        calls = THREE_SENT + [deliver(0), sync(2), transmit(2, 1), deliver(0), deliver(0), sync(2), transmit(2, 1)]
        calls = calls + [duplicate(2)]
        asked = [deliver(2), deliver(1), deliver(1), deliver(0), at_risk(1)]
        told = [[0, 4, 2, 1, 3], [0, 5, 2, 1, 1], [0, 5, 2, 1, 3], [0, 5, 1, 2, 0], [0, 0, 0, 3]]
        self.assertEqual(ask_after(calls, asked), told)

    def test_an_acknowledgement_counts_again_after_a_crash(self):
        calls = ONE_SENT + [deliver(0), sync(2), transmit(2, 1), duplicate(1), deliver(1)]
        asked = [crash(1), deliver(1), at_risk(1)]
        self.assertEqual(ask_after(calls, asked), [[0, 0, 0, 1], [0, 4, 2, 1, 1], [0, 0, 0, 1]])

    def test_pairs_are_separate(self):
        calls = [create_sites(4), post(4, 3, [1]), post(3, 4, [2]), post(2, 3, [3]), sync(4), sync(3), sync(2)]
        calls = calls + [transmit(4, 3), transmit(3, 4), transmit(2, 3)]
        asked = [deliver(0), deliver(1), deliver(2), at_risk(3), at_risk(4), at_risk(2)]
        told = [
            [0, 1, 4, 3, 1], [0, 1, 3, 4, 1], [0, 1, 2, 3, 1], [0, 0, 2, 0], [0, 0, 1, 0], [0, 0, 0, 0],
        ]
        self.assertEqual(ask_after(calls, asked), told)

    def test_the_packet_is_removed(self):
        asked = [deliver(3), deliver(3), deliver(0), deliver(2), lose(0), deliver(0), deliver(0)]
        told = [[0, 5, 1, 2, 0], [-3], [0, 1, 1, 2, 1], [-3], [0, 1], [0, 3, 1, 2, 3], [-3]]
        self.assertEqual(ask_after(THREE_SENT, asked), told)


class Indexes(unittest.TestCase):
    def test_no_such_packet(self):
        for call in (deliver, lose, duplicate, lambda index: damage(index, 0, 9)):
            for index in (-1, -4, -5, 4, 5, LARGE, -LARGE):
                self.assertEqual(ask_after(THREE_SENT, [call(index), lose(3)]), [[-3], [0, 3]])
            self.assertEqual(ask_after(TWO, [call(0), call(-1)]), [[-3], [-3]])

    def test_the_last_packet(self):
        self.assertEqual(ask_after(THREE_SENT, [deliver(3)]), [[0, 5, 1, 2, 0]])
        self.assertEqual(ask_after(THREE_SENT, [lose(3)]), [[0, 3]])
        self.assertEqual(ask_after(THREE_SENT, [duplicate(3)]), [[0, 5]])
        self.assertEqual(ask_after(THREE_SENT, [damage(3, 0, 9)]), [[0, 2]])


class Lose(unittest.TestCase):
    def test_only_the_packet_is_removed(self):
        asked = [lose(1), deliver(0), deliver(0), lose(0), lose(0)]
        self.assertEqual(ask_after(THREE_SENT, asked), [[0, 3], [0, 1, 1, 2, 1], [0, 3, 1, 2, 3], [0, 0], [-3]])

    def test_nothing_is_received(self):
        asked = [lose(0), at_risk(2), at_risk(1)]
        self.assertEqual(ask_after(ONE_SENT, asked), [[0, 1], [0, 0, 0, 0], [0, 0, 0, 0]])

    def test_a_damaged_packet(self):
        self.assertEqual(ask_after(ONE_SENT, [damage(0, 0, 9), lose(0), deliver(0)])[1:], [[0, 1], [0, 5, 1, 2, 0]])


class Duplicate(unittest.TestCase):
    def test_the_copy_is_added_at_the_end(self):
        asked = [duplicate(1), deliver(0), deliver(0), deliver(2), lose(2)]
        told = [[0, 5], [0, 1, 1, 2, 1], [0, 1, 1, 2, 2], [0, 2, 1, 2, 2], [-3]]
        self.assertEqual(ask_after(THREE_SENT, asked), told)

    def test_the_copy_has_the_same_bytes(self):
        calls = ONE_SENT + [duplicate(0)] * len(FIRST_MESSAGE)
        asked = [damage(2 + place, place, 255 - octet) for place, octet in enumerate(FIRST_MESSAGE)]
        self.assertEqual(ask_after(calls, asked), [[0, octet] for octet in FIRST_MESSAGE])

    def test_the_copy_is_damaged_if_the_packet_is(self):
        calls = ONE_SENT + [damage(0, 5, 0), duplicate(0)]
        asked = [damage(2, 5, 1), damage(2, 6, 1), deliver(2)]
        self.assertEqual(ask_after(calls, asked), [[-9], [-9], [0, 0]])

    def test_packet_and_copy_are_independent(self):
        calls = ONE_SENT + [duplicate(0)]
        asked = [damage(2, 5, 1), deliver(0), deliver(1)]
        self.assertEqual(ask_after(calls, asked), [[0, 104], [0, 1, 1, 2, 1], [0, 0]])
        asked = [damage(0, 5, 1), deliver(2), deliver(0)]
        self.assertEqual(ask_after(calls, asked), [[0, 104], [0, 1, 1, 2, 1], [0, 0]])

    def test_a_hundred_and_one_more(self):
        told = ask_after(ONE_SENT, [duplicate(0)] * 101)
        self.assertEqual(told, [[0, count] for count in range(3, 103)] + [[-7]])

    def test_the_limit_counts_what_was_duplicated_not_what_is_there(self):
        calls = ONE_SENT + [duplicate(0)] * 100 + [lose(0)] * 60
        self.assertEqual(ask_after(calls, [duplicate(0), lose(0)]), [[-7], [0, 41]])

    def test_refused_duplicates_are_not_counted(self):
        calls = ONE_SENT + [duplicate(-1), duplicate(2)] * 20 + [duplicate(0)] * 99
        self.assertEqual(ask_after(calls, [duplicate(0), duplicate(0)]), [[0, 102], [-7]])

    def test_transmitted_packets_are_not_counted(self):
        calls = TWO + [transmit(1, 2)] * 90 + [duplicate(89)] * 99
        self.assertEqual(ask_after(calls, [duplicate(0), duplicate(0)]), [[0, 190], [-7]])


class Damage(unittest.TestCase):
    def check_octets(self, calls, octets):
        """Check a packet at index 0 of two, through what damage answers of its duplicates."""
        calls = calls + [duplicate(0)] * len(octets)
        asked = [damage(2 + place, place, (octet + 1) % 256) for place, octet in enumerate(octets)]
        asked = asked + [damage(0, len(octets), 0), damage(0, len(octets), 1)]
        told = [[0, octet] for octet in octets] + [[-9], [-9]]
        self.assertEqual(ask_after(calls, asked), told)

    def test_the_bytes_of_a_message_packet(self):
        self.check_octets(ONE_SENT, FIRST_MESSAGE)

    def test_the_bytes_of_an_acknowledgement(self):
        self.check_octets(TWO + [transmit(2, 1), transmit(2, 1)], FIRST_ACKNOWLEDGEMENT)

    def test_the_bytes_of_an_empty_and_of_a_full_message(self):
        for payload in ([], [255] * 16, [0] * 16, list(range(240, 256))):
            octets = with_checksum([1, 2, 1, 1, len(payload)] + payload)
            self.check_octets(TWO + [post(2, 1, payload), sync(2), transmit(2, 1)], octets)

    def test_positions(self):
        for position in (-1, -11, 11, 12, LARGE, -LARGE):
            self.assertEqual(ask_after(ONE_SENT, [damage(0, position, 77), deliver(0)]), [[-9], [0, 1, 1, 2, 1]])
        self.assertEqual(ask_after(ONE_SENT, [damage(0, 10, 77), deliver(0)]), [[0, 184], [0, 0]])
        self.assertEqual(ask_after(ONE_SENT, [damage(1, 7, 77), damage(0, 0, 77)]), [[0, 9], [0, 1]])
        self.assertEqual(ask_after(ONE_SENT, [damage(1, 8, 77), deliver(1)]), [[-9], [0, 5, 1, 2, 0]])

    def test_the_same_value(self):
        asked = [damage(0, 5, 104), damage(0, 0, 1), damage(0, 10, 184), deliver(0)]
        self.assertEqual(ask_after(ONE_SENT, asked), [[-9], [-9], [-9], [0, 1, 1, 2, 1]])

    def test_values(self):
        for value in (-1, 256, LARGE, -LARGE):
            self.assertEqual(ask_after(ONE_SENT, [damage(0, 5, value), deliver(0)]), [[-1], [0, 1, 1, 2, 1]])
        for value in (0, 255):
            self.assertEqual(ask_after(ONE_SENT, [damage(0, 5, value), deliver(0)]), [[0, 104], [0, 0]])

    def test_a_packet_is_damaged_once_at_most(self):
        asked = [damage(0, 5, 1), damage(0, 5, 104), damage(0, 6, 1), damage(0, 5, 1), deliver(0)]
        self.assertEqual(ask_after(ONE_SENT, asked), [[0, 104], [-9], [-9], [-9], [0, 0]])

    def test_a_refused_damage_does_not_count(self):
        asked = [damage(0, 11, 1), damage(0, 5, 104), damage(0, 5, 256), damage(0, 5, 9)]
        self.assertEqual(ask_after(ONE_SENT, asked), [[-9], [-9], [-1], [0, 104]])

    def test_messages_of_the_sites_stay(self):
        calls = ONE_SENT + [damage(0, 5, 1), lose(0), lose(0), transmit(1, 2)]
        self.assertEqual(ask_after(calls, [damage(0, 5, 1)]), [[0, 104]])


if __name__ == "__main__":
    unittest.main()
