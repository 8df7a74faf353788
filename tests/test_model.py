"""Requests of all twenty calls, answered as a second, plain writing of the document answers them.

It keeps packets as fields with their bytes beside them, and a site's two copies as dicts by pair, so that it has no
form in common with the program.
"""

import copy
import random
import unittest

from tests.asking import (
    ask, at_risk, crash, create_sites, damage, deliver, duplicate, exchange, is_settled, link_state, list_packets, lose,
    packet_bytes, post, read_packet, received, sync, totals, transmit, unsettled, with_checksum, write_packet,
)

SITE, COUNT_OF_SITES, COPY, FIRST, COUNT, OCTET, ANY = (1, 4), (2, 4), (0, 1), (1, 60), (0, 60), (0, 255), None
PAYLOAD, BYTES = (0, 16), (0, 40)

# Of each operation: its name, the limits of its whole numbers, those of its list's length, and which of the whole
# numbers are sites.
OPERATIONS = [
    ("create_sites", [COUNT_OF_SITES], None, []),
    ("post", [SITE, SITE], PAYLOAD, [0, 1]),
    ("sync", [SITE], None, [0]),
    ("crash", [SITE], None, [0]),
    ("at_risk", [SITE], None, [0]),
    ("transmit", [SITE, SITE], None, [0, 1]),
    ("deliver", [ANY], None, []),
    ("lose", [ANY], None, []),
    ("duplicate", [ANY], None, []),
    ("damage", [ANY, ANY, OCTET], None, []),
    ("received", [SITE, SITE, FIRST, COUNT], None, [0, 1]),
    ("link_state", [SITE, SITE, COPY], None, [0, 1]),
    ("unsettled", [SITE, SITE], None, [0, 1]),
    ("list_packets", [], None, []),
    ("packet_bytes", [ANY], None, []),
    ("write_packet", [(1, 2), SITE, SITE, COUNT], PAYLOAD, []),
    ("read_packet", [], BYTES, []),
    ("exchange", [], None, []),
    ("is_settled", [], None, []),
    ("totals", [], None, []),
]


class Refused(Exception):
    def __init__(self, code):
        super().__init__(code)
        self.code = code


def refuse_if(condition, code):
    if condition:
        raise Refused(code)


def written(fields):
    kind, sender, receiver, number, payload = fields
    if kind == 1:
        return with_checksum([kind, sender, receiver, number, len(payload), *payload])
    return with_checksum([kind, sender, receiver, number])


class Model:
    def __init__(self):
        self.count = 0
        self.now = {}
        self.kept = {}
        # Of each packet: its fields, None where it's damaged, and its bytes.
        self.wires = []
        self.duplicated = 0

    def others(self, site):
        return [other for other in range(1, self.count + 1) if other != site]

    def answer(self, call):
        name, limits, length, sites = OPERATIONS[call[0]]
        numbers = call[1:1 + len(limits)]
        row = call[2 + len(limits):]
        try:
            refuse_if(name == "create_sites" and self.count > 0, -5)
            refuse_if(self.count == 0 and name not in ("create_sites", "write_packet", "read_packet"), -4)
            for number, limit in zip(numbers, limits):
                refuse_if(limit is not None and not limit[0] <= number <= limit[1], -1)
            refuse_if(length is not None and (len(row) > length[1] or any(not 0 <= value <= 255 for value in row)), -1)
            refuse_if(any(numbers[place] > self.count for place in sites), -2)
            refuse_if(len(sites) == 2 and numbers[0] == numbers[1], -6)
            rows = [row] if length is not None else []
            return [0] + getattr(self, name)(*numbers, *rows)
        except Refused as refused:
            return [refused.code]

    def create_sites(self, count):
        self.count = count
        for site in range(1, count + 1):
            self.now[site] = {other: {"sent": [], "acknowledged": 0, "received": []} for other in self.others(site)}
        self.kept = copy.deepcopy(self.now)
        return [count]

    def sent_by(self, site):
        return sum(len(state["sent"]) for state in self.now[site].values())

    def received_by(self, site):
        return sum(len(state["received"]) for state in self.now[site].values())

    def post(self, sender, receiver, payload):
        refuse_if(self.sent_by(sender) == 60, -7)
        self.now[sender][receiver]["sent"].append(payload)
        return [len(self.now[sender][receiver]["sent"])]

    def at_risk(self, site):
        told = [0, 0, 0]
        for other in self.others(site):
            now, kept = self.now[site][other], self.kept[site][other]
            told[0] += len(now["sent"]) - len(kept["sent"])
            told[1] += len(now["received"]) - len(kept["received"])
            told[2] += now["acknowledged"] - kept["acknowledged"]
        return told

    def sync(self, site):
        told = self.at_risk(site)
        self.kept[site] = copy.deepcopy(self.now[site])
        return told

    def crash(self, site):
        told = self.at_risk(site)
        self.now[site] = copy.deepcopy(self.kept[site])
        return told

    def send(self, sender, receiver):
        link = self.kept[sender][receiver]
        packets = [(1, sender, receiver, place + 1, payload) for place, payload in enumerate(link["sent"])
                   if place + 1 > link["acknowledged"]]
        packets.append((2, sender, receiver, len(link["received"]), []))
        self.wires.extend((fields, written(fields)) for fields in packets)
        return [len(packets) - 1, len(link["received"])]

    def transmit(self, sender, receiver):
        refuse_if(any(fields and fields[:3] == (1, sender, receiver) for fields, octets in self.wires), -8)
        return self.send(sender, receiver)

    def asked_packet(self, index):
        refuse_if(index not in range(len(self.wires)), -3)
        return self.wires[index]

    def deliver(self, index):
        fields, octets = self.asked_packet(index)
        self.wires = self.wires[:index] + self.wires[index + 1:]
        if fields is None:
            return [0]
        kind, sender, receiver, number, payload = fields
        link = self.now[receiver][sender]
        if kind == 2:
            outcome = 4 if number > link["acknowledged"] else 5
            link["acknowledged"] = max(number, link["acknowledged"])
        else:
            wanted = len(link["received"]) + 1
            outcome = 1 if number == wanted else 2 if number < wanted else 3
            if outcome == 1:
                link["received"].append(payload)
        return [outcome, sender, receiver, number]

    def lose(self, index):
        self.asked_packet(index)
        self.wires = self.wires[:index] + self.wires[index + 1:]
        return [len(self.wires)]

    def duplicate(self, index):
        packet = self.asked_packet(index)
        refuse_if(self.duplicated == 100, -7)
        self.duplicated += 1
        self.wires = self.wires + [packet]
        return [len(self.wires)]

    def damage(self, index, position, value):
        fields, octets = self.asked_packet(index)
        refuse_if(fields is None or position not in range(len(octets)) or octets[position] == value, -9)
        self.wires[index] = (None, octets[:position] + [value] + octets[position + 1:])
        return [octets[position]]

    def received(self, site, sender, first, count):
        messages = self.now[site][sender]["received"]
        messages = [payload for number, payload in enumerate(messages, 1) if first <= number < first + count]
        told = [len(messages)]
        for payload in messages:
            told += [len(payload)] + payload
        return told

    def link_state(self, site, other, which):
        link = (self.now, self.kept)[which][site][other]
        return [len(link["sent"]), link["acknowledged"], len(link["received"])]

    def unsettled(self, sender, receiver):
        link = self.now[sender][receiver]
        numbers = [number for number in range(1, len(link["sent"]) + 1) if number > link["acknowledged"]]
        return [len(numbers), min(numbers, default=0)]

    def list_packets(self):
        told = [len(self.wires)]
        for fields, octets in self.wires:
            told += list(fields[:4]) if fields else [0, 0, 0, 0]
        return told

    def packet_bytes(self, index):
        return self.asked_packet(index)[1]

    def write_packet(self, kind, sender, receiver, number, payload):
        refuse_if(sender == receiver, -6)
        refuse_if(kind == 1 and number == 0 or kind == 2 and payload != [], -9)
        return written((kind, sender, receiver, number, payload))

    def read_packet(self, octets):
        if octets[:1] == [1]:
            fields, told = (*octets[:4], octets[5:-4]), octets[:4] + octets[5:-4]
        else:
            fields, told = (*octets[:4], []), octets[:4]
        if len(octets) < 8 or written(fields) != octets:
            return [0]
        try:
            name, limits, length, sites = OPERATIONS[15]
            for number, (least, most) in zip(fields, limits):
                refuse_if(not least <= number <= most, -1)
            refuse_if(len(fields[4]) > 16, -1)
            self.write_packet(*fields)
        except Refused:
            return [0]
        return [1] + told

    def exchange(self):
        outcomes = [self.deliver(0)[0] for packet in self.wires]
        for site in self.now:
            self.sync(site)
        for sender in self.now:
            for receiver in self.others(sender):
                self.send(sender, receiver)
                outcomes += [self.deliver(0)[0] for packet in self.wires]
        for site in self.now:
            self.sync(site)
        return [outcomes.count(1), outcomes.count(4)]

    def is_settled(self):
        settled = self.wires == [] and self.now == self.kept
        for site in self.now:
            for other in self.others(site):
                link = self.now[site][other]
                settled = settled and link["sent"] == self.now[other][site]["received"]
                settled = settled and link["acknowledged"] == len(link["sent"])
        return [int(settled)]

    def totals(self):
        posted = sum(self.sent_by(site) for site in self.now)
        arrived = sum(self.received_by(site) for site in self.now)
        return [self.count, len(self.wires), self.duplicated, posted, arrived]


class MadeUp:
    """Calls that are mostly successful, and now and then refused in one way or the other."""

    def __init__(self, seed):
        self.source = random.Random(seed)
        self.count = 2 + seed % 3
        self.eager = self.source.choice([0.02, 0.1, 0.3])
        self.exchanges = 0

    def octet(self):
        if self.source.random() < 0.02:
            return self.source.choice([-1, 256])
        return self.source.choice([0, 255, self.source.randint(0, 255)])

    def payload(self):
        length = self.source.choice([0, 1, 2, 16] * 8 + [17])
        return [self.octet() for place in range(length)]

    def pair(self):
        if self.source.random() < 0.05:
            return [self.source.randint(0, 5), self.source.randint(0, 5)]
        return self.source.sample(range(1, self.count + 1), 2)

    def index(self):
        return self.source.choice([0, 0, 0, 1, 2, 3, self.source.randint(-1, 9)])

    def octets(self):
        body = [self.source.randint(1, 2)] + self.pair() + [self.source.randint(0, 61)]
        if body[0] == 1:
            payload = self.payload()
            body = body + [len(payload)] + payload
        octets = with_checksum([octet % 256 for octet in body])
        if self.source.random() < 0.3:
            octets[self.source.randrange(len(octets))] = self.octet()
        return octets if self.source.random() < 0.9 else octets[:self.source.randint(0, len(octets))]

    def look(self):
        number = self.source.choice([0, 1, 1, 1, 2, 3, 60, 61])
        kind = self.source.choice([1, 1, 2, 2, 0, 3])
        return self.source.choice([
            received(*self.pair(), number, self.source.choice([60, 60, 1, 0, 61, -1])),
            link_state(*self.pair(), self.source.choice([0, 0, 0, 1, 1, 1, 2, -1])), unsettled(*self.pair()),
            list_packets(), packet_bytes(self.index()), read_packet(self.octets()), is_settled(), totals(),
            write_packet(kind, *self.pair(), number, self.payload() if kind == 1 else []),
            write_packet(kind, *self.pair(), number, self.payload()), at_risk(self.pair()[0]),
        ])

    def change(self):
        return self.source.choice([
            post(*self.pair(), self.payload()), post(*self.pair(), self.payload()), sync(self.pair()[0]),
            sync(self.pair()[0]), crash(self.pair()[0]), transmit(*self.pair()), transmit(*self.pair()),
            transmit(*self.pair()), deliver(self.index()), deliver(self.index()), deliver(self.index()), deliver(0),
            deliver(0), deliver(0), lose(self.index()), duplicate(self.index()),
            damage(self.index(), self.source.randint(-1, 11), self.octet()), create_sites(self.source.randint(1, 5)),
        ])

    def call(self):
        if self.source.random() < 0.4:
            return self.look()
        if self.source.random() < self.eager and self.exchanges < 30:
            self.exchanges += 1
            return exchange()
        return self.change()

    def request(self):
        ahead = [self.look() for place in range(3)]
        return ahead + [create_sites(self.count)] + [self.call() for place in range(196)]


class SameAnswers(unittest.TestCase):
    def check(self, calls):
        model = Model()
        for place, (call, told) in enumerate(zip(calls, ask(calls))):
            self.assertEqual(told, model.answer(call), (place, call))

    def test_made_up_requests(self):
        met = set()
        for seed in range(150):
            calls = MadeUp(seed).request()
            met |= {call[0] for call in calls}
            self.check(calls)
        self.assertEqual(met, set(range(20)))

    def test_requests_that_reach_the_limits(self):
        filling = [create_sites(3)] + [post(1, 2, [place]) for place in range(58)] + [sync(1), transmit(1, 2)]
        filling = filling + [duplicate(0)] * 97
        for seed in range(20):
            made_up = MadeUp(seed * 3 + 1)
            calls = filling + [made_up.call() for place in range(40)]
            calls = calls + [post(1, 3, []), duplicate(0)]
            self.check(calls)


if __name__ == "__main__":
    unittest.main()
