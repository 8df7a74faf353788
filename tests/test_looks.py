"""The calls that look at the sites and the wires: 10 to 14, 18 and 19."""

import unittest

from tests.asking import (
    LARGE, ask, ask_after, crash, create_sites, damage, deliver, duplicate, exchange, is_settled, link_state,
    list_packets, lose, packet_bytes, post, read_packet, received, sync, totals, transmit, unsettled, with_checksum,
    write_packet,
)

OUTSIDE = (0, 5, -1, LARGE, -LARGE)

TWO = [create_sites(2)]
THREE = [create_sites(3)]
FOUR = [create_sites(4)]

# Site 2 has received three messages from site 1, durably none; an acknowledgement of 0 is on the wires.
PAYLOADS = [[104, 105], [], list(range(240, 256))]
THREE_SENT = TWO + [post(1, 2, payload) for payload in PAYLOADS] + [sync(1), transmit(1, 2)]
THREE_RECEIVED = THREE_SENT + [deliver(0)] * 3

# Site 2 has received 60 messages from site 1.
SIXTY_RECEIVED = TWO + [post(1, 2, [number]) for number in range(1, 61)] + [sync(1), transmit(1, 2)] + [deliver(0)] * 60

MESSAGE = [1, 1, 2, 1, 2, 104, 105, 2, 134, 66, 184]
ACKNOWLEDGEMENT = [2, 1, 2, 0]


class Received(unittest.TestCase):
    def check(self, calls, rows):
        self.assertEqual(ask_after(calls, [call for call, told in rows]), [told for call, told in rows])

    def test_nothing(self):
        self.check(TWO, [(received(1, 2, 1, 60), [0, 0]), (received(2, 1, 60, 60), [0, 0])])

    def test_messages_with_their_lengths(self):
        told = [0, 3, 2, 104, 105, 0, 16] + PAYLOADS[2]
        self.check(THREE_RECEIVED, [(received(2, 1, 1, 60), told), (received(2, 1, 1, 3), told)])

    def test_an_empty_message_and_a_full_one_alone(self):
        self.check(THREE_RECEIVED, [
            (received(2, 1, 2, 1), [0, 1, 0]), (received(2, 1, 3, 1), [0, 1, 16] + PAYLOADS[2]),
            (received(2, 1, 2, 60), [0, 2, 0, 16] + PAYLOADS[2]), (received(2, 1, 1, 2), [0, 2, 2, 104, 105, 0]),
        ])

    def test_first_beyond_the_last_message(self):
        self.check(THREE_RECEIVED, [(received(2, 1, first, 60), [0, 0]) for first in (4, 5, 59, 60)])

    def test_count_zero(self):
        self.check(THREE_RECEIVED, [(received(2, 1, first, 0), [0, 0]) for first in (1, 2, 3, 4, 60)])

    def test_sixty_messages(self):
        everything = [number for message in range(1, 61) for number in (1, message)]
        self.check(SIXTY_RECEIVED, [
            (received(2, 1, 1, 60), [0, 60] + everything), (received(2, 1, 60, 60), [0, 1, 1, 60]),
            (received(2, 1, 60, 1), [0, 1, 1, 60]), (received(2, 1, 1, 1), [0, 1, 1, 1]),
            (received(2, 1, 59, 60), [0, 2, 1, 59, 1, 60]), (received(2, 1, 31, 2), [0, 2, 1, 31, 1, 32]),
        ])

    def test_first_and_count_outside_their_limits(self):
        for number in (0, 61, -1, LARGE, -LARGE):
            self.check(SIXTY_RECEIVED, [(received(2, 1, number, 1), [-1])])
        for number in (61, -1, LARGE, -LARGE):
            self.check(SIXTY_RECEIVED, [(received(2, 1, 1, number), [-1])])

    def test_only_messages_of_this_sender(self):
        calls = THREE + [post(1, 3, [13]), post(2, 3, [23]), post(2, 1, [21]), sync(1), sync(2)]
        calls = calls + [transmit(1, 3), transmit(2, 3), transmit(2, 1)] + [deliver(0)] * 6
        self.check(calls, [
            (received(3, 1, 1, 60), [0, 1, 1, 13]), (received(3, 2, 1, 60), [0, 1, 1, 23]),
            (received(1, 2, 1, 60), [0, 1, 1, 21]), (received(1, 3, 1, 60), [0, 0]), (received(2, 1, 1, 60), [0, 0]),
        ])

    def test_messages_that_a_crash_has_taken_away(self):
        calls = THREE_SENT + [deliver(0), sync(2), deliver(0), deliver(0)]
        self.check(calls, [
            (received(2, 1, 2, 60), [0, 2, 0, 16] + PAYLOADS[2]), (crash(2), [0, 0, 2, 0]),
            (received(2, 1, 1, 60), [0, 1, 2, 104, 105]), (received(2, 1, 2, 60), [0, 0]),
        ])
        self.check(THREE_RECEIVED, [(crash(2), [0, 0, 3, 0]), (received(2, 1, 1, 60), [0, 0])])

    def test_the_present_copy_not_the_durable_one(self):
        self.check(THREE_RECEIVED, [
            (link_state(2, 1, 1), [0, 0, 0, 0]), (received(2, 1, 1, 1), [0, 1, 2, 104, 105]),
        ])

    def test_a_crash_of_the_sender_takes_nothing_away(self):
        calls = THREE_RECEIVED + [post(1, 2, [1]), crash(1)]
        self.check(calls, [(received(2, 1, 1, 2), [0, 2, 2, 104, 105, 0])])

    def test_sites(self):
        for site in OUTSIDE:
            self.check(FOUR, [(received(site, 1, 1, 1), [-1]), (received(1, site, 1, 1), [-1])])
        for site in (3, 4):
            self.check(TWO, [(received(site, 1, 1, 1), [-2]), (received(1, site, 1, 1), [-2])])
        self.check(TWO, [(received(1, 1, 1, 1), [-6]), (received(2, 2, 60, 0), [-6])])

    def test_the_order_of_the_errors(self):
        self.check([received(0, 9, 0, 61)], [(received(1, 1, 0, 61), [-4]), (received(3, 3, 1, 1), [-4])])
        self.check(TWO, [
            (received(4, 4, 0, 1), [-1]), (received(4, 4, 1, 61), [-1]), (received(1, 1, 61, 0), [-1]),
            (received(1, 1, 1, -1), [-1]), (received(3, 0, 1, 1), [-1]), (received(5, 3, 1, 1), [-1]),
            (received(5, 5, 1, 1), [-1]), (received(3, 3, 1, 1), [-2]), (received(4, 4, 60, 60), [-2]),
        ])


class LinkState(unittest.TestCase):
    def test_at_first(self):
        asked = [link_state(1, 2, 0), link_state(1, 2, 1), link_state(2, 1, 0), link_state(2, 1, 1)]
        self.assertEqual(ask_after(TWO, asked), [[0, 0, 0, 0]] * 4)

    def test_copies_outside_their_limits(self):
        for copy in (2, -1, LARGE, -LARGE):
            self.assertEqual(ask_after(TWO, [link_state(1, 2, copy)]), [[-1]])

    def check_copies(self, calls, site, other, present, durable):
        told = ask_after(calls, [link_state(site, other, 0), link_state(site, other, 1)])
        self.assertEqual(told, [[0] + present, [0] + durable])

    def test_behind_a_post_a_sync_and_a_crash(self):
        calls = TWO + [post(1, 2, []), post(1, 2, [])]
        self.check_copies(calls, 1, 2, [2, 0, 0], [0, 0, 0])
        self.check_copies(calls + [sync(1)], 1, 2, [2, 0, 0], [2, 0, 0])
        self.check_copies(calls + [crash(1)], 1, 2, [0, 0, 0], [0, 0, 0])
        calls = calls + [sync(1), post(1, 2, [])]
        self.check_copies(calls, 1, 2, [3, 0, 0], [2, 0, 0])
        self.check_copies(calls + [crash(1)], 1, 2, [2, 0, 0], [2, 0, 0])
        self.check_copies(calls + [sync(2), crash(2)], 1, 2, [3, 0, 0], [2, 0, 0])

    def test_behind_the_delivery_of_a_message(self):
        self.check_copies(THREE_RECEIVED, 2, 1, [0, 0, 3], [0, 0, 0])
        self.check_copies(THREE_RECEIVED, 1, 2, [3, 0, 0], [3, 0, 0])
        self.check_copies(THREE_RECEIVED + [sync(2)], 2, 1, [0, 0, 3], [0, 0, 3])
        self.check_copies(THREE_RECEIVED + [crash(2)], 2, 1, [0, 0, 0], [0, 0, 0])

    def test_behind_the_delivery_of_an_acknowledgement(self):
        calls = THREE_SENT + [deliver(0), deliver(0), sync(2), deliver(0), transmit(2, 1), deliver(1)]
        self.check_copies(calls, 1, 2, [3, 2, 0], [3, 0, 0])
        self.check_copies(calls, 2, 1, [0, 0, 3], [0, 0, 2])
        self.check_copies(calls + [sync(1)], 1, 2, [3, 2, 0], [3, 2, 0])
        self.check_copies(calls + [crash(1)], 1, 2, [3, 0, 0], [3, 0, 0])

    def test_all_three_numbers_of_a_pair(self):
        calls = THREE + [post(1, 2, []), post(1, 2, []), post(2, 1, []), post(1, 3, []), post(3, 1, [])]
        calls = calls + [exchange(), exchange(), post(1, 2, []), post(1, 2, []), post(1, 2, [])]
        self.check_copies(calls, 1, 2, [5, 2, 1], [2, 2, 1])
        self.check_copies(calls, 2, 1, [1, 1, 2], [1, 1, 2])
        self.check_copies(calls, 1, 3, [1, 1, 1], [1, 1, 1])
        self.check_copies(calls, 2, 3, [0, 0, 0], [0, 0, 0])

    def test_sites(self):
        for site in OUTSIDE:
            self.assertEqual(ask_after(FOUR, [link_state(site, 1, 0), link_state(1, site, 1)]), [[-1], [-1]])
        self.assertEqual(ask_after(TWO, [link_state(3, 1, 0), link_state(1, 4, 1)]), [[-2], [-2]])
        self.assertEqual(ask_after(TWO, [link_state(1, 1, 0), link_state(2, 2, 1)]), [[-6], [-6]])

    def test_the_order_of_the_errors(self):
        self.assertEqual(ask([link_state(9, 9, 9), link_state(1, 1, 0), link_state(3, 2, 1)]), [[-4]] * 3)
        asked = [link_state(1, 1, 2), link_state(3, 3, -1), link_state(4, 0, 0), link_state(5, 5, 1)]
        self.assertEqual(ask_after(TWO, asked), [[-1]] * 4)
        self.assertEqual(ask_after(TWO, [link_state(3, 3, 0), link_state(4, 4, 1)]), [[-2], [-2]])


class Unsettled(unittest.TestCase):
    def test_none(self):
        self.assertEqual(ask_after(TWO, [unsettled(1, 2), unsettled(2, 1)]), [[0, 0, 0]] * 2)

    def test_all_messages(self):
        self.assertEqual(ask_after(THREE_RECEIVED, [unsettled(1, 2), unsettled(2, 1)]), [[0, 3, 1], [0, 0, 0]])

    def test_some_messages(self):
        calls = THREE_SENT + [deliver(0), deliver(0), sync(2), transmit(2, 1), deliver(2)]
        self.assertEqual(ask_after(calls, [unsettled(1, 2)]), [[0, 1, 3]])
        calls = calls + [post(1, 2, []), post(1, 2, [])]
        self.assertEqual(ask_after(calls, [unsettled(1, 2), crash(1), unsettled(1, 2)])[::2], [[0, 3, 3], [0, 3, 1]])

    def test_all_acknowledged(self):
        calls = THREE_RECEIVED + [sync(2), transmit(2, 1), deliver(1)]
        self.assertEqual(ask_after(calls, [unsettled(1, 2), post(1, 2, []), unsettled(1, 2)])[::2],
                         [[0, 0, 0], [0, 1, 4]])

    def test_sixty_messages(self):
        self.assertEqual(ask_after(SIXTY_RECEIVED, [unsettled(1, 2)]), [[0, 60, 1]])
        calls = SIXTY_RECEIVED + [sync(2), transmit(2, 1), deliver(1)]
        self.assertEqual(ask_after(calls, [unsettled(1, 2)]), [[0, 0, 0]])

    def test_present_numbers_not_durable_ones(self):
        self.assertEqual(ask_after(TWO, [post(1, 2, []), unsettled(1, 2)]), [[0, 1], [0, 1, 1]])
        self.assertEqual(ask_after(TWO, [post(1, 2, []), crash(1), unsettled(1, 2)])[2], [0, 0, 0])
        calls = THREE_RECEIVED + [sync(2), transmit(2, 1), deliver(1)]
        asked = [link_state(1, 2, 1), unsettled(1, 2), crash(1), unsettled(1, 2)]
        self.assertEqual(ask_after(calls, asked), [[0, 3, 0, 0], [0, 0, 0], [0, 0, 0, 3], [0, 3, 1]])

    def test_only_messages_of_the_pair(self):
        calls = THREE + [post(1, 2, []), post(1, 3, []), post(1, 3, []), post(3, 1, [])]
        asked = [unsettled(1, 2), unsettled(1, 3), unsettled(3, 1), unsettled(2, 1)]
        self.assertEqual(ask_after(calls, asked), [[0, 1, 1], [0, 2, 1], [0, 1, 1], [0, 0, 0]])

    def test_sites_and_the_order_of_the_errors(self):
        for site in OUTSIDE:
            self.assertEqual(ask_after(FOUR, [unsettled(site, 1), unsettled(1, site)]), [[-1], [-1]])
        asked = [unsettled(3, 1), unsettled(1, 4), unsettled(3, 3), unsettled(4, 0), unsettled(5, 5), unsettled(2, 2)]
        self.assertEqual(ask_after(TWO, asked), [[-2], [-2], [-2], [-1], [-1], [-6]])
        self.assertEqual(ask([unsettled(1, 2), unsettled(0, 0), unsettled(3, 3)]), [[-4]] * 3)


class ListPackets(unittest.TestCase):
    def test_no_packets(self):
        self.assertEqual(ask_after(TWO, [list_packets()]), [[0, 0]])

    def test_no_sites(self):
        self.assertEqual(ask([list_packets(), create_sites(9), list_packets()]), [[-4], [-1], [-4]])

    def test_both_kinds_in_their_order(self):
        told = [0, 4, 1, 1, 2, 1, 1, 1, 2, 2, 1, 1, 2, 3, 2, 1, 2, 0]
        self.assertEqual(ask_after(THREE_SENT, [list_packets(), list_packets()]), [told, told])
        calls = THREE_RECEIVED + [post(2, 1, [5]), sync(2), transmit(2, 1)]
        self.assertEqual(ask_after(calls, [list_packets()]), [[0, 3, 2, 1, 2, 0, 1, 2, 1, 1, 2, 2, 1, 3]])

    def test_all_pairs(self):
        calls = FOUR + [transmit(4, 3), transmit(1, 4), transmit(2, 3)]
        self.assertEqual(ask_after(calls, [list_packets()]), [[0, 3, 2, 4, 3, 0, 2, 1, 4, 0, 2, 2, 3, 0]])

    def test_damaged_and_duplicated_packets(self):
        calls = THREE_SENT + [duplicate(0), damage(0, 5, 1), duplicate(0), damage(3, 7, 0), duplicate(3), duplicate(4)]
        told = [0, 8, 0, 0, 0, 0, 1, 1, 2, 2, 1, 1, 2, 3, 0, 0, 0, 0, 1, 1, 2, 1] + [0] * 8 + [1, 1, 2, 1]
        self.assertEqual(ask_after(calls, [list_packets()]), [told])

    def test_every_damage_makes_a_packet_unreadable(self):
        for position, value in enumerate(MESSAGE):
            for other in (value - 1, value + 1, 255 - value):
                if 0 <= other <= 255:
                    calls = THREE_SENT + [damage(0, position, other), lose(1), lose(1), lose(1), list_packets()]
                    self.assertEqual(ask(calls)[-1], [0, 1, 0, 0, 0, 0])

    def test_delivered_and_lost_packets_are_gone(self):
        asked = [lose(1), deliver(0), list_packets(), lose(0), lose(0), list_packets()]
        self.assertEqual(ask_after(THREE_SENT, asked)[2::3], [[0, 2, 1, 1, 2, 3, 2, 1, 2, 0], [0, 0]])

    def test_a_crash_keeps_the_packets(self):
        told = ask_after(THREE_SENT, [list_packets(), crash(1), crash(2), list_packets()])
        self.assertEqual(told[0], told[3])


class PacketBytes(unittest.TestCase):
    def test_both_kinds(self):
        told = [
            [0] + MESSAGE, [0] + with_checksum([1, 1, 2, 2, 0]), [0] + with_checksum([1, 1, 2, 3, 16] + PAYLOADS[2]),
            [0] + with_checksum(ACKNOWLEDGEMENT),
        ]
        self.assertEqual(ask_after(THREE_SENT, [packet_bytes(index) for index in range(4)]), told)

    def test_an_acknowledgement_of_messages(self):
        calls = THREE_RECEIVED + [sync(2), transmit(2, 1)]
        self.assertEqual(ask_after(calls, [packet_bytes(1)]), [[0] + with_checksum([2, 2, 1, 3])])

    def test_no_such_packet(self):
        for index in (-1, -4, 4, 5, LARGE, -LARGE):
            self.assertEqual(ask_after(THREE_SENT, [packet_bytes(index)]), [[-3]])
        for index in (0, -1, 1):
            self.assertEqual(ask_after(TWO, [packet_bytes(index)]), [[-3]])
            self.assertEqual(ask([packet_bytes(index)]), [[-4]])

    def test_a_damaged_packet_and_its_duplicate(self):
        damaged = MESSAGE[:5] + [7] + MESSAGE[6:]
        calls = THREE_SENT + [duplicate(0), damage(0, 5, 7), duplicate(0)]
        asked = [packet_bytes(0), packet_bytes(4), packet_bytes(5)]
        self.assertEqual(ask_after(calls, asked), [[0] + damaged, [0] + MESSAGE, [0] + damaged])

    def test_every_position(self):
        for position in range(len(MESSAGE)):
            damaged = MESSAGE[:position] + [99] + MESSAGE[position + 1:]
            asked = [damage(0, position, 99), packet_bytes(0)]
            self.assertEqual(ask_after(THREE_SENT, asked), [[0, MESSAGE[position]], [0] + damaged])

    def test_the_bytes_are_those_that_are_written_and_read(self):
        for index, payload in enumerate(PAYLOADS):
            told = ask_after(THREE_SENT, [packet_bytes(index), write_packet(1, 1, 2, index + 1, payload)])
            self.assertEqual(told[0], told[1])
            self.assertEqual(ask([read_packet(told[0][1:])]), [[0, 1, 1, 1, 2, index + 1] + payload])

    def test_the_wires_stay(self):
        asked = [packet_bytes(0), list_packets(), packet_bytes(0), packet_bytes(3)]
        told = ask_after(THREE_SENT, asked)
        self.assertEqual(told[0], told[2])
        self.assertEqual(told[1], [0, 4, 1, 1, 2, 1, 1, 1, 2, 2, 1, 1, 2, 3, 2, 1, 2, 0])


class IsSettled(unittest.TestCase):
    def check(self, calls, told):
        self.assertEqual(ask_after(calls, [is_settled(), is_settled()]), [[0, told], [0, told]])

    def test_no_sites(self):
        self.assertEqual(ask([is_settled(), create_sites(1), is_settled()]), [[-4], [-1], [-4]])

    def test_at_first(self):
        for count in (2, 3, 4):
            self.check([create_sites(count)], 1)

    def test_settled_by_single_calls(self):
        calls = THREE_RECEIVED + [lose(0), sync(2), transmit(2, 1), deliver(0), sync(1)]
        self.check(calls, 1)
        # Each is all that is missing.
        self.check(calls[:-1], 0)
        self.check(calls[:-2], 0)

    def test_a_packet_on_the_wires(self):
        settled = THREE_SENT + [exchange(), exchange()]
        self.check(settled, 1)
        self.check(settled + [transmit(1, 2)], 0)
        self.check(settled + [transmit(2, 1)], 0)
        self.check(settled + [transmit(1, 2), lose(0)], 1)
        self.check(settled + [transmit(1, 2), damage(0, 0, 9)], 0)

    def test_a_message_that_is_not_durable(self):
        settled = THREE + [post(1, 3, [1]), exchange(), exchange()]
        self.check(settled + [post(1, 3, [1])], 0)
        self.check(settled + [post(1, 3, [1]), crash(1)], 1)

    def test_received_is_not_durable(self):
        # Such a message can't be acknowledged yet, so this reason never stands alone.
        calls = THREE_SENT + [deliver(0)] * 4
        self.assertEqual(ask_after(calls, [link_state(2, 1, 0), link_state(2, 1, 1), list_packets()]),
                         [[0, 0, 0, 3], [0, 0, 0, 0], [0, 0]])
        self.check(calls, 0)

    def test_acknowledged_is_not_durable(self):
        calls = THREE_RECEIVED + [lose(0), sync(2), transmit(2, 1), deliver(0)]
        self.assertEqual(ask_after(calls, [link_state(1, 2, 0), link_state(2, 1, 0), list_packets()]),
                         [[0, 3, 3, 0], [0, 0, 0, 3], [0, 0]])
        self.check(calls, 0)
        self.check(calls + [crash(1)], 0)
        self.check(calls + [sync(1)], 1)

    def test_a_message_is_not_received(self):
        calls = TWO + [post(2, 1, [1]), sync(2)]
        self.check(calls, 0)
        self.check(calls + [transmit(2, 1), lose(0), lose(0)], 0)

    def test_a_message_is_not_acknowledged(self):
        calls = TWO + [post(2, 1, [1]), exchange()]
        self.assertEqual(ask_after(calls, [link_state(1, 2, 1), list_packets()]), [[0, 0, 0, 1], [0, 0]])
        self.check(calls, 0)

    def test_every_pair_counts(self):
        for sender in range(1, 5):
            for receiver in range(1, 5):
                if sender != receiver:
                    calls = FOUR + [post(sender, receiver, []), sync(sender)]
                    self.check(calls, 0)
                    self.check(calls + [exchange()], 0)
                    self.check(calls + [exchange(), exchange()], 1)

    def test_every_site_counts(self):
        for site in range(1, 5):
            settled = FOUR + [exchange()]
            self.check(settled + [post(site, 5 - site, [])], 0)


class Totals(unittest.TestCase):
    def check(self, calls, told):
        self.assertEqual(ask_after(calls, [totals(), totals()]), [[0] + told] * 2)

    def test_no_sites(self):
        self.assertEqual(ask([totals(), create_sites(0), totals()]), [[-4], [-1], [-4]])

    def test_at_first(self):
        for count in (2, 3, 4):
            self.check([create_sites(count)], [count, 0, 0, 0, 0])

    def test_behind_posts_and_crashes(self):
        calls = FOUR + [post(1, 2, []), post(1, 3, []), post(4, 1, [9]), post(4, 1, [9]), post(2, 1, [])]
        self.check(calls, [4, 0, 0, 5, 0])
        self.check(calls + [crash(4)], [4, 0, 0, 3, 0])
        self.check(calls + [sync(4), crash(4), crash(1)], [4, 0, 0, 3, 0])
        self.check(calls + [post(1, 1, []), post(5, 1, [])], [4, 0, 0, 5, 0])

    def test_behind_deliveries(self):
        self.check(THREE_SENT, [2, 4, 0, 3, 0])
        self.check(THREE_SENT + [deliver(1), deliver(0)], [2, 2, 0, 3, 1])
        self.check(THREE_RECEIVED, [2, 1, 0, 3, 3])
        self.check(THREE_RECEIVED + [crash(2)], [2, 1, 0, 3, 0])
        self.check(THREE_RECEIVED + [sync(2), crash(2), lose(0)], [2, 0, 0, 3, 3])

    def test_received_of_all_pairs_together(self):
        calls = THREE + [post(1, 2, []), post(2, 1, []), post(3, 1, []), post(3, 2, []), exchange()]
        self.check(calls, [3, 0, 0, 4, 4])
        self.check(calls + [post(2, 3, [])], [3, 0, 0, 5, 4])

    def test_duplicates(self):
        calls = THREE_SENT + [duplicate(0), duplicate(3), damage(1, 0, 9), duplicate(1)]
        self.check(calls, [2, 7, 3, 3, 0])
        self.check(calls + [duplicate(7), duplicate(-1)], [2, 7, 3, 3, 0])
        self.check(calls + [lose(6), deliver(0)], [2, 5, 3, 3, 1])
        self.check(calls + [crash(1), crash(2)], [2, 7, 3, 3, 0])
        self.check(calls + [exchange()], [2, 0, 3, 3, 3])
        self.check(THREE_SENT + [duplicate(0)] * 101, [2, 104, 100, 3, 0])

    def test_exchanges(self):
        calls = FOUR + [post(1, 4, []), post(4, 1, []), post(2, 3, [])]
        self.check(calls + [exchange()], [4, 0, 0, 3, 3])
        self.check(calls + [exchange(), exchange()], [4, 0, 0, 3, 3])


if __name__ == "__main__":
    unittest.main()
