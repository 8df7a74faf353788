"""The requirements 1 to 8, along requests of 200 calls that are made up of all twenty."""

import random
import unittest

from surelinks.calls import split_calls
from surelinks.links import answer_call
from surelinks.network import Network
from tests.asking import (
    at_risk, crash, create_sites, damage, deliver, duplicate, exchange, is_settled, joined, link_state,
    list_packets, lose, packet_bytes, post, read_packet, received, sync, totals, transmit, unsettled, with_checksum,
    write_packet,
)

OUTCOMES_WITHOUT_EFFECT = (0, 2, 3, 5)

# at_risk, and from received to read_packet, is_settled and totals.
ONLY_LOOKING = (4, 10, 11, 12, 13, 14, 15, 16, 18, 19)


def perform(network, call):
    return answer_call(network, split_calls(joined([call]))[0])


def copied(state):
    return [[list(row) for row in state.sent], list(state.acknowledged), [list(row) for row in state.received]]


def copied_sites(network):
    return [[copied(site.present), copied(site.durable)] for site in network.sites]


def copied_wires(network):
    return [(list(carried.octets), carried.damaged) for carried in network.wires]


def copied_all(network):
    return [copied_sites(network), copied_wires(network), network.duplicated]


def made_up_look(source, count, one, other):
    """A call that changes nothing."""
    number = source.randint(0, 61)
    index = source.randint(-1, 6)
    body = [source.randint(0, 3), one, other, number, source.randint(0, 4)] + [7] * source.randint(0, 4)
    return source.choice([
        at_risk(one), at_risk(source.randint(0, 5)), received(one, other, source.randint(0, 3), number),
        received(one, source.randint(0, 5), 1, 60), link_state(one, other, source.randint(0, 1)),
        link_state(one, source.randint(0, 5), source.randint(-1, 2)), unsettled(one, other),
        unsettled(source.randint(0, 5), other), list_packets(), packet_bytes(index),
        write_packet(source.randint(0, 3), one, other, number, [5] * source.randint(0, 17)),
        write_packet(1, one, source.randint(0, 5), source.randint(0, 1), []), read_packet(body),
        read_packet(with_checksum(body)), is_settled(), totals(), create_sites(count),
    ])


def made_up_call(source, count):
    """A call that is often successful, with one or the other that is refused."""
    one = source.randint(1, count)
    other = source.choice([site for site in range(1, count + 1) if site != one])
    index = source.randint(-1, 6)
    chance = source.random()
    if chance < 0.15:
        return made_up_look(source, count, one, other)
    # Seldom, since all that stands on the wires is gone then.
    if chance < 0.17:
        return exchange()
    return source.choice([
        post(one, other, [source.randint(0, 255) for place in range(source.randint(0, 3))]),
        post(one, source.randint(0, 5), []),
        sync(one), sync(one), crash(one), at_risk(one),
        transmit(one, other), transmit(one, other), transmit(other, one),
        deliver(0), deliver(0), deliver(index), deliver(index), deliver(index),
        lose(index), duplicate(index), damage(index, source.randint(-1, 12), source.randint(0, 255)),
    ])


def requests():
    """Networks of two to four sites, and for each the calls of a request behind create_sites."""
    for seed in range(120):
        source = random.Random(seed)
        count = 2 + seed % 3
        network = Network()
        perform(network, create_sites(count))
        yield network, count, [made_up_call(source, count) for place in range(199)]


def left_networks():
    """The networks of the requests, each left behind one or the other of its calls."""
    for place, (network, count, calls) in enumerate(requests()):
        for call in calls[:place * 53 % 200]:
            perform(network, call)
        yield network, count


def is_beginning(row, whole):
    return whole[:len(row)] == row


def pairs(count):
    return [(one, other) for one in range(1, count + 1) for other in range(1, count + 1) if one != other]


class AtEveryMoment(unittest.TestCase):
    def test_received_is_a_beginning_of_what_is_durably_sent(self):
        for network, count, calls in requests():
            for call in calls:
                perform(network, call)
                for sender, receiver in pairs(count):
                    sent = network.site(sender).durable.sent[receiver]
                    self.assertTrue(is_beginning(network.site(receiver).present.received[sender], sent))
                    self.assertTrue(is_beginning(network.site(receiver).durable.received[sender], sent))

    def test_acknowledged_is_durably_received(self):
        for network, count, calls in requests():
            for call in calls:
                perform(network, call)
                for sender, receiver in pairs(count):
                    received = len(network.site(receiver).durable.received[sender])
                    self.assertLessEqual(network.site(sender).present.acknowledged[receiver], received)
                    self.assertLessEqual(network.site(sender).durable.acknowledged[receiver], received)

    def test_what_is_not_durably_received_is_transmitted(self):
        for network, count, calls in requests():
            for call in calls:
                told = perform(network, call)
                if call[0] == 5 and told[0] == 0:
                    sender, receiver = call[1:]
                    sent = len(network.site(sender).durable.sent[receiver])
                    received = len(network.site(receiver).durable.received[sender])
                    self.assertGreaterEqual(told[1], sent - received)

    def test_durable_copies_lose_nothing_and_change_by_their_sync_alone(self):
        for network, count, calls in requests():
            for call in calls:
                before = [durable for present, durable in copied_sites(network)]
                perform(network, call)
                after = [durable for present, durable in copied_sites(network)]
                for site in range(1, count + 1):
                    self.check_gain(before[site - 1], after[site - 1])
                    if call not in (sync(site), exchange()):
                        self.assertEqual(before[site - 1], after[site - 1])

    def check_gain(self, before, after):
        for place in range(len(before[1])):
            self.assertTrue(is_beginning(before[0][place], after[0][place]))
            self.assertLessEqual(before[1][place], after[1][place])
            self.assertTrue(is_beginning(before[2][place], after[2][place]))

    def test_a_crash_changes_only_the_present_copy_of_its_site(self):
        for network, count, calls in requests():
            for call in calls:
                expected = copied_all(network)
                told = perform(network, call)
                if call[0] == 3 and told[0] == 0:
                    expected[0][call[1] - 1][0] = expected[0][call[1] - 1][1]
                    self.assertEqual(copied_all(network), expected)

    def test_a_sync_changes_only_the_durable_copy_of_its_site(self):
        for network, count, calls in requests():
            for call in calls:
                expected = copied_all(network)
                told = perform(network, call)
                if call[0] == 2 and told[0] == 0:
                    expected[0][call[1] - 1][1] = expected[0][call[1] - 1][0]
                    self.assertEqual(copied_all(network), expected)

    def test_a_delivery_without_effect_changes_only_the_wires(self):
        met = set()
        for network, count, calls in requests():
            for call in calls:
                before = copied_all(network)
                told = perform(network, call)
                if call[0] == 6 and told[0] == 0:
                    met.add(told[1])
                    del before[1][call[1]]
                    self.assertEqual(copied_all(network) == before, told[1] in OUTCOMES_WITHOUT_EFFECT)
        self.assertEqual(met, {0, 1, 2, 3, 4, 5})

    def test_a_refused_call_and_one_that_only_looks_change_nothing(self):
        refused = set()
        looked = set()
        for network, count, calls in requests():
            for call in calls:
                before = copied_all(network)
                told = perform(network, call)
                if told[0] != 0:
                    refused.add(told[0])
                    self.assertEqual(len(told), 1)
                    self.assertEqual(copied_all(network), before)
                elif call[0] in ONLY_LOOKING:
                    looked.add(call[0])
                    self.assertEqual(copied_all(network), before)
        self.assertEqual(refused, {-1, -2, -3, -5, -6, -8, -9})
        self.assertEqual(looked, set(ONLY_LOOKING))

    def test_all_twenty_calls_stand_in_the_requests(self):
        met = {call[0] for network, count, calls in requests() for call in calls}
        self.assertEqual(met, set(range(20)))


class Packets(unittest.TestCase):
    """Requirements 4 and 5, for the packets that stand on the wires of the requests."""

    def test_a_packet_is_read_as_it_is_listed_and_written_as_it_is_read(self):
        met = set()
        for network, count, calls in requests():
            for call in calls:
                perform(network, call)
            listed = perform(network, list_packets())[2:]
            for index, carried in enumerate(network.wires):
                octets = perform(network, packet_bytes(index))[1:]
                read = perform(network, read_packet(octets))[1:]
                met.add(read[0])
                self.assertEqual(carried.damaged, read[0] == 0)
                self.assertEqual(listed[4 * index:4 * index + 4], read[1:5] if read[0] == 1 else [0, 0, 0, 0])
                if read[0] == 1:
                    self.assertEqual(perform(network, write_packet(*read[1:5], read[5:])), [0] + octets)
        self.assertEqual(met, {0, 1})


class Exchanges(unittest.TestCase):
    """Requirement 6, from states all along the requests."""

    def test_after_one_exchange_all_messages_are_received_and_the_wires_are_empty(self):
        for network, count in left_networks():
            posted = [copied(site.present)[0] for site in network.sites]
            perform(network, exchange())
            self.assertEqual(perform(network, list_packets()), [0, 0])
            for sender, receiver in pairs(count):
                for state in (network.site(receiver).present, network.site(receiver).durable):
                    self.assertEqual(state.received[sender], posted[sender - 1][receiver])

    def test_after_two_exchanges_all_is_settled(self):
        met = set()
        for network, count in left_networks():
            perform(network, exchange())
            met.add(perform(network, is_settled())[1])
            perform(network, exchange())
            self.assertEqual(perform(network, is_settled()), [0, 1])
        self.assertEqual(met, {0, 1})

    def test_what_is_counted(self):
        for network, count in left_networks():
            before = perform(network, totals())
            told = perform(network, exchange())
            self.assertEqual(told[1], perform(network, totals())[5] - before[5])
            before = [copied(site.present)[1] for site in network.sites]
            told = perform(network, exchange())
            after = [copied(site.present)[1] for site in network.sites]
            changed = [one != other for ones, others in zip(before, after) for one, other in zip(ones, others)]
            self.assertEqual(told, [0, 0, sum(changed)])


class AfterACrash(unittest.TestCase):
    """Requirement 7: with the site's posts and crashes left out and its deliveries lost, all comes out the same.

    An exchange syncs the site, so none may stand behind the moment when its copies were equal.
    """

    def left_out(self, call, told, site):
        if call[0] == 1 and call[1] == site or call == crash(site):
            return []
        if call[0] == 6 and told[0] == 0 and told[1] != 0 and told[3] == site:
            return [lose(call[1])]
        return [call]

    def test_the_crash_is_the_same_as_leaving_out(self):
        for seed in range(150):
            source = random.Random(1000 + seed)
            count = 2 + seed % 3
            site = source.randint(1, count)
            ahead = [create_sites(count)] + [made_up_call(source, count) for place in range(60)] + [sync(site)]
            since = [made_up_call(source, count) for place in range(60)]
            since = [call for call in since if call not in (sync(site), exchange())]
            crashed = Network()
            spared = Network()
            for call in ahead:
                perform(crashed, call)
                perform(spared, call)
            for call in since:
                told = perform(crashed, call)
                for other_call in self.left_out(call, told, site):
                    perform(spared, other_call)
            perform(crashed, crash(site))
            self.assertEqual(copied_all(crashed), copied_all(spared))


if __name__ == "__main__":
    unittest.main()
