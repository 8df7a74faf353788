"""Requirements 1, 2, 3, 7 and 8, along requests that are made up of all ten calls."""

import random
import unittest

from surelinks.calls import split_calls
from surelinks.changes import answer_change
from surelinks.network import Network
from tests.asking import (
    at_risk, crash, create_sites, damage, deliver, duplicate, joined, lose, post, sync, transmit,
)

OUTCOMES_WITHOUT_EFFECT = (0, 2, 3, 5)


def perform(network, call):
    read = split_calls(joined([call]))[0]
    return answer_change(network, read.operation, read.numbers, read.row)


def copied(state):
    return [[list(row) for row in state.sent], list(state.acknowledged), [list(row) for row in state.received]]


def copied_sites(network):
    return [[copied(site.present), copied(site.durable)] for site in network.sites]


def copied_wires(network):
    return [(list(carried.octets), carried.damaged) for carried in network.wires]


def copied_all(network):
    return [copied_sites(network), copied_wires(network), network.duplicated]


def made_up_call(source, count):
    """A call that is often successful, with one or the other that is refused."""
    one = source.randint(1, count)
    other = source.choice([site for site in range(1, count + 1) if site != one])
    index = source.randint(-1, 6)
    return source.choice([
        post(one, other, [source.randint(0, 255) for place in range(source.randint(0, 3))]),
        post(one, source.randint(0, 5), []),
        sync(one), sync(one), crash(one), at_risk(one),
        transmit(one, other), transmit(one, other), transmit(other, one),
        deliver(0), deliver(0), deliver(index), deliver(index), deliver(index),
        lose(index), duplicate(index), damage(index, source.randint(-1, 12), source.randint(0, 255)),
    ])


def requests():
    """Networks of two to four sites, and for each the calls of a request behind create_sites."""
    for seed in range(120):
        source = random.Random(seed)
        count = 2 + seed % 3
        network = Network()
        perform(network, create_sites(count))
        yield network, count, [made_up_call(source, count) for place in range(199)]


def is_beginning(row, whole):
    return whole[:len(row)] == row


def pairs(count):
    return [(one, other) for one in range(1, count + 1) for other in range(1, count + 1) if one != other]


class AtEveryMoment(unittest.TestCase):
    def test_received_is_a_beginning_of_what_is_durably_sent(self):
        for network, count, calls in requests():
            for call in calls:
                perform(network, call)
                for sender, receiver in pairs(count):
                    sent = network.site(sender).durable.sent[receiver]
                    self.assertTrue(is_beginning(network.site(receiver).present.received[sender], sent))
                    self.assertTrue(is_beginning(network.site(receiver).durable.received[sender], sent))

    def test_acknowledged_is_durably_received(self):
        for network, count, calls in requests():
            for call in calls:
                perform(network, call)
                for sender, receiver in pairs(count):
                    received = len(network.site(receiver).durable.received[sender])
                    self.assertLessEqual(network.site(sender).present.acknowledged[receiver], received)
                    self.assertLessEqual(network.site(sender).durable.acknowledged[receiver], received)

    def test_what_is_not_durably_received_is_transmitted(self):
        for network, count, calls in requests():
            for call in calls:
                told = perform(network, call)
                if call[0] == 5 and told[0] == 0:
                    sender, receiver = call[1:]
                    sent = len(network.site(sender).durable.sent[receiver])
                    received = len(network.site(receiver).durable.received[sender])
                    self.assertGreaterEqual(told[1], sent - received)

    def test_durable_copies_lose_nothing_and_change_by_their_sync_alone(self):
        for network, count, calls in requests():
            for call in calls:
                before = [durable for present, durable in copied_sites(network)]
                perform(network, call)
                after = [durable for present, durable in copied_sites(network)]
                for site in range(1, count + 1):
                    self.check_gain(before[site - 1], after[site - 1])
                    if call != sync(site):
                        self.assertEqual(before[site - 1], after[site - 1])

    def check_gain(self, before, after):
        for place in range(len(before[1])):
            self.assertTrue(is_beginning(before[0][place], after[0][place]))
            self.assertLessEqual(before[1][place], after[1][place])
            self.assertTrue(is_beginning(before[2][place], after[2][place]))

    def test_a_crash_changes_only_the_present_copy_of_its_site(self):
        for network, count, calls in requests():
            for call in calls:
                expected = copied_all(network)
                told = perform(network, call)
                if call[0] == 3 and told[0] == 0:
                    expected[0][call[1] - 1][0] = expected[0][call[1] - 1][1]
                    self.assertEqual(copied_all(network), expected)

    def test_a_sync_changes_only_the_durable_copy_of_its_site(self):
        for network, count, calls in requests():
            for call in calls:
                expected = copied_all(network)
                told = perform(network, call)
                if call[0] == 2 and told[0] == 0:
                    expected[0][call[1] - 1][1] = expected[0][call[1] - 1][0]
                    self.assertEqual(copied_all(network), expected)

    def test_a_delivery_without_effect_changes_only_the_wires(self):
        met = set()
        for network, count, calls in requests():
            for call in calls:
                before = copied_all(network)
                told = perform(network, call)
                if call[0] == 6 and told[0] == 0:
                    met.add(told[1])
                    del before[1][call[1]]
                    self.assertEqual(copied_all(network) == before, told[1] in OUTCOMES_WITHOUT_EFFECT)
        self.assertEqual(met, {0, 1, 2, 3, 4, 5})

    def test_a_refused_call_and_at_risk_change_nothing(self):
        met = set()
        for network, count, calls in requests():
            for call in calls:
                before = copied_all(network)
                told = perform(network, call)
                if told[0] != 0 or call[0] == 4:
                    met.add(told[0])
                    self.assertEqual(copied_all(network), before)
                if told[0] != 0:
                    self.assertEqual(len(told), 1)
        self.assertEqual(met, {0, -1, -2, -3, -6, -8, -9})


class AfterACrash(unittest.TestCase):
    """Requirement 7: with the site's posts and crashes left out and its deliveries lost, all comes out the same."""

    def left_out(self, call, told, site):
        if call[0] == 1 and call[1] == site or call == crash(site):
            return []
        if call[0] == 6 and told[0] == 0 and told[1] != 0 and told[3] == site:
            return [lose(call[1])]
        return [call]

    def test_the_crash_is_the_same_as_leaving_out(self):
        for seed in range(150):
            source = random.Random(1000 + seed)
            count = 2 + seed % 3
            site = source.randint(1, count)
            ahead = [create_sites(count)] + [made_up_call(source, count) for place in range(60)] + [sync(site)]
            since = [made_up_call(source, count) for place in range(60)]
            since = [call for call in since if call != sync(site)]
            crashed = Network()
            spared = Network()
            for call in ahead:
                perform(crashed, call)
                perform(spared, call)
            for call in since:
                told = perform(crashed, call)
                for other_call in self.left_out(call, told, site):
                    perform(spared, other_call)
            perform(crashed, crash(site))
            self.assertEqual(copied_all(crashed), copied_all(spared))


if __name__ == "__main__":
    unittest.main()
