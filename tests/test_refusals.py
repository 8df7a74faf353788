"""The errors of all calls, in the order in which they are checked, and that a refused call changes nothing."""

import unittest

from tests.asking import (
    LARGE, ask, ask_after, at_risk, crash, create_sites, damage, deliver, duplicate, exchange, is_settled, link_state,
    list_packets, lose, packet_bytes, post, read_packet, received, sync, totals, transmit, unsettled, write_packet,
)

TWO = [create_sites(2)]
ONE_SENT = TWO + [post(1, 2, [104, 105]), sync(1), transmit(1, 2)]
FULL = TWO + [post(1, 2, [])] * 60
DUPLICATED = ONE_SENT + [duplicate(0)] * 100

REFUSED_WITHOUT_SITES = [
    post(1, 2, [1]), post(0, 9, [256] * 60), post(1, 1, []), post(3, 4, []), post(LARGE, -LARGE, [LARGE]),
    sync(1), sync(0), sync(LARGE), crash(2), crash(5), crash(-LARGE), at_risk(4), at_risk(-1), at_risk(LARGE),
    transmit(1, 2), transmit(0, 0), transmit(LARGE, 1), deliver(0), deliver(-1), deliver(LARGE), lose(0), lose(-LARGE),
    duplicate(0), duplicate(LARGE), damage(0, 0, 0), damage(0, 0, 256), damage(-LARGE, LARGE, -LARGE),
    received(1, 2, 1, 1), received(3, 3, 1, 1), received(0, 5, 0, 61), received(LARGE, -LARGE, LARGE, LARGE),
    link_state(1, 2, 0), link_state(2, 2, 1), link_state(0, 5, 2), link_state(LARGE, LARGE, -LARGE),
    unsettled(1, 2), unsettled(4, 4), unsettled(0, 5), unsettled(-LARGE, LARGE), list_packets(), packet_bytes(0),
    packet_bytes(-1), packet_bytes(LARGE), exchange(), is_settled(), totals(),
]

# write_packet and read_packet don't ask for sites: told alike ahead of them and behind.
TOLD_WITHOUT_SITES = [
    (write_packet(2, 2, 1, 0, []), [0, 2, 2, 1, 0, 3, 12, 17, 9]), (write_packet(0, 1, 1, 0, []), [-1]),
    (write_packet(1, 1, 1, 0, [256]), [-1]), (write_packet(LARGE, LARGE, LARGE, LARGE, [LARGE] * 60), [-1]),
    (write_packet(1, 4, 4, 0, []), [-6]), (write_packet(2, 3, 3, 0, [1]), [-6]), (write_packet(1, 3, 4, 0, []), [-9]),
    (write_packet(2, 3, 4, 0, [1]), [-9]), (read_packet([]), [0, 0]), (read_packet([LARGE]), [-1]),
    (read_packet([2, 2, 1, 0, 3, 12, 17, 9]), [0, 1, 2, 2, 1, 0]), (read_packet([0] * 41), [-1]),
]

# Behind ONE_SENT, where each of these is refused for more than one reason.
REFUSED_FOR_THE_FIRST_REASON = [
    (create_sites(LARGE), -5), (create_sites(-1), -5),
    (post(5, 5, []), -1), (post(0, 3, []), -1), (post(3, 0, []), -1), (post(4, 3, [256]), -1), (post(1, 1, [-1]), -1),
    (post(3, 4, [1] * 17), -1), (post(2, 2, [1] * 60), -1), (post(3, 3, []), -2), (post(4, 4, [1]), -2),
    (transmit(5, 5), -1), (transmit(0, 4), -1), (transmit(4, 0), -1), (transmit(3, 3), -2), (transmit(4, 4), -2),
    (damage(2, 0, 256), -1), (damage(-1, -1, -1), -1), (damage(0, 99, 256), -1), (damage(LARGE, LARGE, LARGE), -1),
    (damage(2, 99, 0), -3), (damage(-1, 0, 1), -3), (damage(-LARGE, -LARGE, 0), -3),
    (received(3, 3, 0, 1), -1), (received(1, 1, 1, 61), -1), (received(0, 4, 1, 1), -1), (received(4, 4, 1, 0), -2),
    (link_state(3, 3, 2), -1), (link_state(1, 1, -1), -1), (link_state(4, 0, 0), -1), (link_state(4, 4, 1), -2),
    (unsettled(5, 5), -1), (unsettled(4, 0), -1), (unsettled(3, 3), -2), (write_packet(1, 1, 1, 0, [256]), -1),
    (write_packet(3, 4, 4, 0, []), -1), (write_packet(1, 4, 4, 0, []), -6), (write_packet(2, 3, 3, 0, [1]), -6),
    (read_packet([256] * 41), -1),
]

REFUSED_AFTER_ONE_SENT = REFUSED_FOR_THE_FIRST_REASON + [
    (create_sites(2), -5), (post(1, 2, [300]), -1), (post(1, 3, []), -2), (post(2, 2, []), -6), (sync(0), -1),
    (sync(3), -2), (crash(5), -1), (crash(4), -2), (at_risk(0), -1), (at_risk(3), -2), (transmit(1, 9), -1),
    (transmit(3, 1), -2), (transmit(1, 1), -6), (transmit(1, 2), -8), (deliver(2), -3), (deliver(-1), -3),
    (lose(2), -3), (lose(-2), -3), (duplicate(2), -3), (duplicate(-1), -3), (damage(2, 0, 0), -3),
    (damage(0, 11, 0), -9), (damage(0, -1, 0), -9), (damage(0, 0, 1), -9), (damage(0, 0, -1), -1),
    (received(1, 2, 61, 0), -1), (received(1, 3, 1, 1), -2), (received(2, 2, 1, 1), -6), (link_state(1, 2, 2), -1),
    (link_state(3, 2, 1), -2), (link_state(1, 1, 0), -6), (unsettled(1, 0), -1), (unsettled(1, 4), -2),
    (unsettled(2, 2), -6), (packet_bytes(2), -3), (packet_bytes(-1), -3), (write_packet(1, 1, 2, 61, []), -1),
    (write_packet(1, 2, 2, 1, []), -6), (write_packet(1, 1, 2, 0, []), -9), (write_packet(2, 1, 2, 0, [1]), -9),
    (read_packet([-1]), -1), (read_packet([1] * 41), -1),
]

# These tell of both copies of the sites, of each packet, and of the numbers of all kinds.
ALL_THAT_IS_TOLD = [
    link_state(1, 2, 0), link_state(1, 2, 1), link_state(2, 1, 0), link_state(2, 1, 1), received(2, 1, 1, 60),
    received(1, 2, 1, 60), unsettled(1, 2), list_packets(), packet_bytes(0), packet_bytes(1), is_settled(), totals(),
    at_risk(1), at_risk(2), duplicate(0), duplicate(1), lose(3), lose(2), deliver(1), deliver(0), deliver(0),
    at_risk(1), at_risk(2), post(1, 2, []), post(2, 1, []), crash(1), crash(2), transmit(1, 2), damage(0, 5, 0),
]


class Order(unittest.TestCase):
    def test_there_are_no_sites(self):
        for call in REFUSED_WITHOUT_SITES:
            with self.subTest(call=call):
                self.assertEqual(ask([call, create_sites(2)]), [[-4], [0, 2]])

    def test_what_asks_for_no_sites(self):
        for call, told in TOLD_WITHOUT_SITES:
            with self.subTest(call=call):
                self.assertEqual(ask([call, create_sites(2), call]), [told, [0, 2], told])

    def test_there_are_no_sites_after_a_refused_create(self):
        self.assertEqual(ask([create_sites(1), sync(9)]), [[-1], [-4]])

    def test_the_first_reason_counts(self):
        for call, code in REFUSED_FOR_THE_FIRST_REASON:
            with self.subTest(call=call):
                self.assertEqual(ask_after(ONE_SENT, [call]), [[code]])

    def test_a_full_sender(self):
        asked = [post(1, 2, []), post(1, 1, []), post(1, 3, []), post(1, 5, []), post(1, 2, [256]), post(2, 1, [])]
        self.assertEqual(ask_after(FULL, asked), [[-7], [-6], [-2], [-1], [-1], [0, 1]])

    def test_a_hundred_duplicated(self):
        asked = [duplicate(0), duplicate(101), duplicate(102), duplicate(-1)]
        self.assertEqual(ask_after(DUPLICATED, asked), [[-7], [-7], [-3], [-3]])

    def test_a_damaged_packet(self):
        calls = ONE_SENT + [damage(0, 5, 0)]
        asked = [damage(0, 5, 256), damage(2, 5, 1), damage(0, 5, 1), damage(0, 99, 1), damage(0, 5, 0)]
        self.assertEqual(ask_after(calls, asked), [[-1], [-3], [-9], [-9], [-9]])


class NothingChanges(unittest.TestCase):
    def test_a_refused_call_changes_nothing(self):
        expected = ask_after(ONE_SENT, ALL_THAT_IS_TOLD)
        for call, code in REFUSED_AFTER_ONE_SENT:
            with self.subTest(call=call):
                told = ask_after(ONE_SENT, [call] + ALL_THAT_IS_TOLD)
                self.assertEqual(told, [[code]] + expected)

    def test_refused_calls_together_change_nothing(self):
        expected = ask_after(ONE_SENT, ALL_THAT_IS_TOLD)
        calls = ONE_SENT + [call for call, code in REFUSED_AFTER_ONE_SENT] * 2
        self.assertEqual(ask_after(calls, ALL_THAT_IS_TOLD), expected)

    def test_a_refused_post_of_a_full_sender_changes_nothing(self):
        told = ask_after(FULL, [post(1, 2, []), sync(1), transmit(1, 2)])
        self.assertEqual(told, [[-7], [0, 60, 0, 0], [0, 60, 0]])

    def test_a_refused_duplicate_changes_nothing(self):
        told = ask_after(DUPLICATED, [duplicate(0), duplicate(1), lose(101), lose(101)])
        self.assertEqual(told, [[-7], [-7], [0, 101], [-3]])


if __name__ == "__main__":
    unittest.main()
