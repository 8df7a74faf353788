"""Requirements 4 and 5: what is written is read, and what is readable is what is written."""

import random
import unittest

from surelinks.packets import Packet, checksum_of, octets_of, packet_of
from tests.asking import with_checksum

SAMPLES = [
    (1, 1, 2, 1, []), (1, 1, 2, 1, [104, 105]), (1, 4, 3, 60, [0] * 16), (1, 2, 4, 31, [255] * 16), (1, 3, 1, 2, [0]),
    (2, 2, 1, 0, []), (2, 1, 2, 60, []), (2, 4, 3, 17, []), (2, 3, 4, 1, []),
    # Here the checksums end in 0 0 0 and in 255 255 255.
    (1, 1, 2, 1, [0, 63, 164, 222]), (1, 1, 2, 1, [0, 63, 164, 221]),
]


def fields_of(packet):
    return packet.kind, packet.sender, packet.receiver, packet.number, packet.payload


def is_readable(octets):
    """The table of the document, field by field."""
    body = octets[:-4]
    if len(octets) < 8 or with_checksum(body) != octets or body[0] not in (1, 2):
        return False
    if body[1] not in (1, 2, 3, 4) or body[2] not in (1, 2, 3, 4) or body[1] == body[2]:
        return False
    if body[0] == 2:
        return len(body) == 4 and body[3] <= 60
    return len(body) >= 5 and 1 <= body[3] <= 60 and body[4] <= 16 and len(body) == 5 + body[4]


class Writing(unittest.TestCase):
    def test_the_checksum(self):
        self.assertEqual(checksum_of([]), 0)
        self.assertEqual(checksum_of([0]), 1)
        self.assertEqual(checksum_of([255, 0]), 256 * 257 + 1)
        self.assertEqual(checksum_of([1, 1, 2, 1, 2, 104, 105]), 42353336)

    def test_the_octets_of_the_examples(self):
        message = octets_of(Packet(1, 1, 2, 1, [104, 105]))
        self.assertEqual(message, [1, 1, 2, 1, 2, 104, 105, 2, 134, 66, 184])
        self.assertEqual(octets_of(Packet(2, 2, 1, 0, [])), [2, 2, 1, 0, 3, 12, 17, 9])

    def test_the_fields_and_the_checksum(self):
        for kind, sender, receiver, number, payload in SAMPLES:
            length = [len(payload)] if kind == 1 else []
            octets = with_checksum([kind, sender, receiver, number] + length + payload)
            self.assertEqual(octets_of(Packet(kind, sender, receiver, number, payload)), octets)


class Reading(unittest.TestCase):
    def test_every_kind_pair_and_number_is_read_as_written(self):
        pairs = [(one, other) for one in range(1, 5) for other in range(1, 5) if one != other]
        for sender, receiver in pairs:
            for number in range(61):
                self.check_round_trip(2, sender, receiver, number, [])
            for number in range(1, 61):
                self.check_round_trip(1, sender, receiver, number, [number, 255, 0] * (number % 6))

    def check_round_trip(self, *fields):
        octets = octets_of(Packet(*fields))
        self.assertEqual(fields_of(packet_of(octets)), fields)

    def test_every_replaced_octet_makes_it_unreadable(self):
        for fields in SAMPLES:
            octets = octets_of(Packet(*fields))
            for place, old in enumerate(octets):
                for value in range(256):
                    if value != old:
                        self.assertIsNone(packet_of(octets[:place] + [value] + octets[place + 1:]))

    def test_fields_outside_their_limits_with_a_right_checksum(self):
        bodies = [
            [0, 1, 2, 1], [3, 1, 2, 1], [0, 1, 2, 1, 0], [3, 1, 2, 1, 0], [255, 1, 2, 1],
            [1, 0, 2, 1, 0], [1, 5, 2, 1, 0], [1, 1, 0, 1, 0], [1, 1, 5, 1, 0], [1, 2, 2, 1, 0], [2, 1, 1, 0],
            [2, 0, 1, 0], [2, 1, 0, 0], [2, 5, 1, 0], [2, 1, 5, 0], [1, 1, 2, 0, 0], [1, 1, 2, 61, 0], [2, 1, 2, 61],
            [2, 1, 2, 255], [1, 1, 2, 1, 17] + [1] * 17, [1, 1, 2, 1, 31] + [1] * 31, [1, 1, 2, 1, 2, 7],
            [1, 1, 2, 1, 1, 7, 7], [1, 1, 2, 1, 1], [1, 1, 2, 1], [2, 1, 2, 0, 0], [2, 1, 2], [1, 1, 2], [1], [],
        ]
        for body in bodies:
            with self.subTest(body=body):
                self.assertIsNone(packet_of(with_checksum(body)))

    def test_the_limits_themselves(self):
        for body in ([1, 1, 2, 1, 16] + [1] * 16, [1, 3, 4, 60, 0], [2, 4, 3, 60], [2, 1, 2, 0]):
            self.assertIsNotNone(packet_of(with_checksum(body)))

    def test_further_and_missing_octets(self):
        for fields in SAMPLES:
            octets = octets_of(Packet(*fields))
            for length in range(len(octets)):
                self.assertIsNone(packet_of(octets[:length]))
            self.assertIsNone(packet_of(octets + [0]))
            self.assertIsNone(packet_of([0] + octets))

    def test_the_checksum_the_other_way_round(self):
        self.assertIsNone(packet_of([1, 1, 2, 1, 2, 104, 105, 184, 66, 134, 2]))

    def test_a_checksum_that_is_not_reduced(self):
        octets = [1, 1, 2, 1, 2, 104, 105] + list((42353336 + 1000000007).to_bytes(4, "big"))
        self.assertIsNone(packet_of(octets))

    def test_readable_is_just_what_is_written(self):
        source = random.Random(45)
        for length in list(range(10)) * 400 + list(range(10, 27)) * 40:
            body = [source.choice([0, 1, 1, 2, 2, 3, 4, 5, 60, 61]) for place in range(length)]
            if length > 4 and source.random() < 0.7:
                body[4] = length - 5
            octets = with_checksum(body)
            packet = packet_of(octets)
            self.assertEqual(packet is not None, is_readable(octets), octets)
            if packet is not None:
                self.assertEqual(octets_of(packet), octets)

    def test_what_is_read_is_not_changed(self):
        octets = [1, 1, 2, 1, 2, 104, 105, 2, 134, 66, 184]
        packet_of(octets)
        self.assertEqual(octets, [1, 1, 2, 1, 2, 104, 105, 2, 134, 66, 184])


if __name__ == "__main__":
    unittest.main()
