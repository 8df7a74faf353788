"""exchange: its steps, what it counts, and requirement 6."""

import unittest

from surelinks.changes import create_sites as create_sites_of, exchange as exchange_of, post as post_of
from surelinks.looks import is_settled as is_settled_of, received as received_of, totals as totals_of
from surelinks.network import Network
from tests.asking import (
    ask, ask_after, at_risk, crash, create_sites, damage, deliver, duplicate, exchange, is_settled, link_state,
    list_packets, lose, post, received, sync, totals, transmit, unsettled,
)

TWO = [create_sites(2)]
THREE = [create_sites(3)]
FOUR = [create_sites(4)]
PAIRS = [(one, other) for one in range(1, 5) for other in range(1, 5) if one != other]

# On the wires: the messages 1 to 3 from 1 to 2, and an acknowledgement of 0.
THREE_SENT = TWO + [post(1, 2, [10]), post(1, 2, []), post(1, 2, [30]), sync(1), transmit(1, 2)]


class WithoutPackets(unittest.TestCase):
    def test_no_sites(self):
        self.assertEqual(ask([exchange(), create_sites(5), exchange()]), [[-4], [-1], [-4]])

    def test_nothing_to_do(self):
        for count in (2, 3, 4):
            told = ask_after([create_sites(count)], [exchange(), list_packets(), is_settled(), totals()])
            self.assertEqual(told, [[0, 0, 0], [0, 0], [0, 1], [0, count, 0, 0, 0, 0]])

    def test_messages_that_were_not_durable(self):
        calls = TWO + [post(1, 2, [1]), post(1, 2, [2]), post(2, 1, [3])]
        told = ask_after(calls, [exchange(), received(2, 1, 1, 60), received(1, 2, 1, 60), list_packets()])
        self.assertEqual(told, [[0, 3, 0], [0, 2, 1, 1, 1, 2], [0, 1, 1, 3], [0, 0]])

    def test_acknowledgements_come_with_the_second_exchange(self):
        calls = TWO + [post(1, 2, [1]), post(1, 2, [2]), post(2, 1, [3])]
        asked = [exchange(), is_settled(), unsettled(1, 2), exchange(), is_settled(), unsettled(1, 2), exchange()]
        told = [[0, 3, 0], [0, 0], [0, 2, 1], [0, 0, 2], [0, 1], [0, 0, 0], [0, 0, 0]]
        self.assertEqual(ask_after(calls, asked), told)

    def test_what_was_received_ahead_of_it_is_acknowledged_in_it(self):
        # The sync of the second step makes it durable, so the transmissions of the third step tell of it.
        calls = THREE_SENT + [deliver(0), deliver(0), lose(0), lose(0)]
        asked = [at_risk(2), exchange(), link_state(1, 2, 1), link_state(2, 1, 1), exchange(), is_settled()]
        told = [[0, 0, 2, 0], [0, 1, 1], [0, 3, 2, 0], [0, 0, 0, 3], [0, 0, 1], [0, 1]]
        self.assertEqual(ask_after(calls, asked), told)

    def test_what_is_received_within_it_is_not_durable_when_the_sites_transmit(self):
        # Site 2 transmits to site 1 after it has received, but what leaves a site is of its durable copy.
        calls = TWO + [post(1, 2, [1])]
        self.assertEqual(ask_after(calls, [exchange(), link_state(1, 2, 0)]), [[0, 1, 0], [0, 1, 0, 0]])
        calls = TWO + [post(2, 1, [1])]
        self.assertEqual(ask_after(calls, [exchange(), link_state(2, 1, 0)]), [[0, 1, 0], [0, 1, 0, 0]])

    def test_a_single_acknowledged_number_counts_once_a_pair(self):
        calls = FOUR + [post(one, other, []) for one, other in PAIRS] * 2
        asked = [exchange(), exchange(), exchange(), is_settled()]
        self.assertEqual(ask_after(calls, asked), [[0, 24, 0], [0, 0, 12], [0, 0, 0], [0, 1]])

    def test_all_sites_sync_at_its_end(self):
        calls = FOUR + [post(one, other, []) for one, other in PAIRS] + [exchange()]
        self.assertEqual(ask_after(calls, [at_risk(site) for site in range(1, 5)]), [[0, 0, 0, 0]] * 4)
        states = [link_state(one, other, 1) for one, other in PAIRS]
        self.assertEqual(ask_after(calls, states), [[0, 1, 0, 1]] * 12)
        self.assertEqual(ask_after(calls + [exchange()], states), [[0, 1, 1, 1]] * 12)

    def test_a_crash_behind_it_changes_nothing(self):
        calls = THREE + [post(3, 2, [5]), exchange()]
        asked = [crash(1), crash(2), crash(3), received(2, 3, 1, 60), exchange(), is_settled()]
        self.assertEqual(ask_after(calls, asked), [[0, 0, 0, 0]] * 3 + [[0, 1, 1, 5], [0, 0, 1], [0, 1]])


class WithPackets(unittest.TestCase):
    def check(self, calls, first, second):
        """Check what two exchanges answer, and that all is settled then."""
        asked = [exchange(), list_packets(), exchange(), list_packets(), is_settled(), exchange(), is_settled()]
        told = [[0] + first, [0, 0], [0] + second, [0, 0], [0, 1], [0, 0, 0], [0, 1]]
        self.assertEqual(ask_after(calls, asked), told)

    def test_message_packets(self):
        # They are received in the first step already, so they are acknowledged in the third.
        self.check(THREE_SENT, [3, 1], [0, 0])

    def test_packets_of_both_kinds(self):
        calls = THREE_SENT + [deliver(0), post(2, 1, [5]), sync(2), transmit(2, 1)]
        self.check(calls, [3, 3], [0, 0])

    def test_an_acknowledgement_of_less_and_one_of_more(self):
        # The acknowledged number increases once to 1 and once to 3.
        calls = THREE_SENT + [deliver(0), sync(2), transmit(2, 1), deliver(0), deliver(0), sync(2), transmit(2, 1)]
        self.check(calls, [0, 2], [0, 0])
        # The other way round it increases once, to 3.
        self.check(calls + [duplicate(1), lose(1)], [0, 1], [0, 0])

    def test_in_the_order_of_the_list(self):
        # Message 2, 3, 1: only message 1 is received in the first step, and the others in the third.
        calls = THREE_SENT + [duplicate(0), lose(0)]
        self.check(calls, [3, 1], [0, 1])
        self.assertEqual(ask_after(calls, [exchange(), link_state(1, 2, 0)]), [[0, 3, 1], [0, 3, 1, 0]])

    def test_damaged_packets(self):
        self.check(THREE_SENT + [damage(0, 5, 1), damage(3, 3, 2)], [3, 0], [0, 1])
        self.check(THREE_SENT + [damage(1, 3, 3)], [3, 1], [0, 1])
        self.check(THREE_SENT + [damage(2, 0, 2)], [3, 1], [0, 1])

    def test_duplicated_packets(self):
        self.check(THREE_SENT + [duplicate(0), duplicate(1), duplicate(3)], [3, 1], [0, 0])
        self.check(THREE_SENT + [damage(0, 5, 1), duplicate(0), duplicate(4)], [3, 0], [0, 1])
        self.check(THREE_SENT + [duplicate(0), damage(0, 5, 1)], [3, 1], [0, 1])
        self.check(THREE_SENT + [duplicate(0)] * 100, [3, 1], [0, 0])

    def test_it_does_not_count_as_duplicated_and_keeps_what_was(self):
        calls = THREE_SENT + [duplicate(0)] * 99 + [exchange(), transmit(1, 2)]
        self.assertEqual(ask_after(calls, [duplicate(0), duplicate(0), totals()]),
                         [[0, 2], [-7], [0, 2, 2, 100, 3, 3]])

    def test_the_refusal_of_transmit_is_none_of_its_steps(self):
        told = ask_after(THREE_SENT, [transmit(1, 2), exchange(), transmit(1, 2), exchange()])
        self.assertEqual(told, [[-8], [0, 3, 1], [0, 0, 0], [0, 0, 0]])

    def test_three_sites(self):
        calls = THREE + [post(1, 3, [1]), post(3, 2, [2]), sync(1), transmit(1, 3), post(2, 1, [3]), transmit(2, 1)]
        # Message 1 of site 1 is received in the first step, and acknowledged in the third.
        self.check(calls, [3, 1], [0, 2])

    def test_four_sites(self):
        calls = FOUR + [post(one, other, [one, other]) for one, other in PAIRS] + [sync(2), transmit(2, 4)]
        self.check(calls, [12, 1], [0, 11])
        asked = [exchange()] + [received(other, one, 1, 60) for one, other in PAIRS]
        self.assertEqual(ask_after(calls, asked)[1:], [[0, 1, 2, one, other] for one, other in PAIRS])

    def test_a_crash_ahead_of_it(self):
        # What is on the wires is delivered, what the crash has taken away is not sent.
        calls = THREE_SENT + [post(1, 2, [4]), crash(1)]
        self.check(calls, [3, 1], [0, 0])
        self.check(THREE_SENT + [deliver(0)] * 3 + [crash(2)], [3, 0], [0, 1])

    def test_acknowledged_messages_are_not_transmitted_again(self):
        calls = THREE_SENT + [exchange(), exchange(), post(1, 2, [40]), exchange()]
        asked = [received(2, 1, 4, 60), transmit(1, 2)]
        self.assertEqual(ask_after(calls, asked), [[0, 1, 1, 40], [0, 1, 0]])


class TheMost(unittest.TestCase):
    def test_thirty_in_one_request_of_two_hundred_calls(self):
        posts = [post(1, 2, [1] * 16)] * 60 + [post(2, 1, [2] * 16)] * 60 + [post(3, 4, [3] * 16)] * 49
        told = ask(FOUR + posts + [exchange()] * 30)
        self.assertEqual(told[170:], [[0, 169, 0], [0, 0, 3]] + [[0, 0, 0]] * 28)

    def test_thirty_one_behind_another_with_new_messages_between(self):
        calls = FOUR
        for place in range(28):
            calls = calls + [post(1, 2, [place]), post(1, 3, [place]), post(4, 1, []), post(3, 4, [7]), exchange()]
        told = ask(calls + [exchange(), exchange(), is_settled(), totals()])
        self.assertEqual(told[5::5][:28], [[0, 4, 0]] + [[0, 4, 4]] * 27)
        self.assertEqual(told[141:], [[0, 0, 4], [0, 0, 0], [0, 1], [0, 4, 0, 0, 112, 112]])

    def test_many_packets_on_the_wires(self):
        calls = [create_sites(2)] + [post(1, 2, [9] * 16)] * 30 + [sync(1), transmit(1, 2)] + [duplicate(29)] * 100
        told = ask_after(calls, [exchange(), exchange(), is_settled(), totals()])
        self.assertEqual(told, [[0, 30, 1], [0, 0, 0], [0, 1], [0, 2, 0, 100, 30, 30]])

    def test_sixty_messages_of_each_of_four_sites(self):
        # These are more calls than one request may have, so they are made one by one.
        network = Network()
        create_sites_of(network, 4)
        for place in range(20):
            for sender, receiver in PAIRS:
                self.assertEqual(post_of(network, sender, receiver, [sender, receiver, place]), [0, place + 1])
        told = [exchange_of(network) for place in range(30)]
        self.assertEqual(told, [[0, 240, 0], [0, 0, 12]] + [[0, 0, 0]] * 28)
        self.assertEqual(is_settled_of(network), [0, 1])
        self.assertEqual(totals_of(network), [0, 4, 0, 0, 240, 240])
        for sender, receiver in PAIRS:
            messages = [number for place in range(20) for number in (3, sender, receiver, place)]
            self.assertEqual(received_of(network, receiver, sender, 1, 60), [0, 20] + messages)


if __name__ == "__main__":
    unittest.main()
