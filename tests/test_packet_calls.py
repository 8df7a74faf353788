"""write_packet and read_packet: requirements 4 and 5, and the errors of both."""

import unittest

from tests.asking import (
    LARGE, ask, ask_after, create_sites, exchange, list_packets, post, read_packet, sync, totals, transmit,
    with_checksum, write_packet,
)

PAIRS = [(one, other) for one in range(1, 5) for other in range(1, 5) if one != other]


def made_up_payload(length):
    return [(length * 37 + place * 91) % 256 for place in range(length)]


# A message packet of each length, and acknowledgements.
SAMPLES = [
    (1, 1 + length % 4, 4 - (length + 2) % 4, 1 + 3 * length, made_up_payload(length))
    for length in range(17)
]
SAMPLES = SAMPLES + [
    (1, 1, 2, 60, [0] * 16), (1, 4, 3, 1, [255] * 16), (1, 3, 1, 2, [0]),
    (2, 1, 2, 0, []), (2, 2, 1, 60, []), (2, 4, 3, 17, []), (2, 3, 4, 1, []),
]


def ask_many(calls):
    """The answers to any number of calls that don't depend on one another."""
    told = []
    for start in range(0, len(calls), 200):
        told.extend(ask(calls[start:start + 200]))
    return told


def octets_of(kind, sender, receiver, number, payload):
    length = [len(payload)] if kind == 1 else []
    return with_checksum([kind, sender, receiver, number] + length + payload)


def with_one_replaced(octets):
    """Every list of bytes that differs from these in just one byte."""
    return [octets[:place] + [value] + octets[place + 1:]
            for place in range(len(octets)) for value in range(256) if value != octets[place]]


class WritePacket(unittest.TestCase):
    def check(self, call, told):
        self.assertEqual(ask([call]), [told])
        self.assertEqual(ask_after([create_sites(2)], [call, totals()]), [told, [0, 2, 0, 0, 0, 0]])

    def test_both_kinds(self):
        self.check(write_packet(1, 1, 2, 1, [104, 105]), [0, 1, 1, 2, 1, 2, 104, 105, 2, 134, 66, 184])
        self.check(write_packet(2, 2, 1, 0, []), [0, 2, 2, 1, 0, 3, 12, 17, 9])
        for sample in SAMPLES:
            self.check(write_packet(*sample), [0] + octets_of(*sample))

    def test_kinds_outside_their_limits(self):
        for kind in (0, 3, -1, -2, 255, LARGE, -LARGE):
            self.check(write_packet(kind, 1, 2, 1, []), [-1])

    def test_numbers(self):
        for number in (61, -1, 62, 255, 256, LARGE, -LARGE):
            self.check(write_packet(1, 1, 2, number, []), [-1])
            self.check(write_packet(2, 1, 2, number, []), [-1])
        for number in (1, 60):
            self.check(write_packet(1, 1, 2, number, []), [0] + octets_of(1, 1, 2, number, []))
        for number in (0, 1, 60):
            self.check(write_packet(2, 1, 2, number, []), [0] + octets_of(2, 1, 2, number, []))

    def test_payloads_within_the_limits(self):
        for payload in ([], [0], [255], [0] * 16, [255] * 16, list(range(16))):
            self.check(write_packet(1, 3, 2, 9, payload), [0] + octets_of(1, 3, 2, 9, payload))

    def test_payloads_outside_the_limits(self):
        for payload in ([0] * 17, [1] * 60, [256], [-1], [0] * 15 + [256], [-1] + [0] * 15, [LARGE], [-LARGE]):
            self.check(write_packet(1, 1, 2, 1, payload), [-1])
            self.check(write_packet(2, 1, 2, 1, payload), [-1])

    def test_sites(self):
        for site in (0, 5, -1, LARGE, -LARGE):
            self.check(write_packet(1, site, 2, 1, []), [-1])
            self.check(write_packet(2, 1, site, 1, []), [-1])
        for site in range(1, 5):
            self.check(write_packet(1, site, site, 1, []), [-6])
            self.check(write_packet(2, site, site, 0, []), [-6])

    def test_sites_that_do_not_exist(self):
        for sender, receiver in PAIRS:
            self.check(write_packet(1, sender, receiver, 7, [8]), [0] + octets_of(1, sender, receiver, 7, [8]))
            self.check(write_packet(2, sender, receiver, 7, []), [0] + octets_of(2, sender, receiver, 7, []))

    def test_not_to_be_written(self):
        self.check(write_packet(1, 1, 2, 0, []), [-9])
        self.check(write_packet(1, 1, 2, 0, [1] * 16), [-9])
        self.check(write_packet(2, 1, 2, 0, [0]), [-9])
        self.check(write_packet(2, 1, 2, 60, [1] * 16), [-9])

    def test_the_order_of_the_errors(self):
        for call in (
            write_packet(3, 1, 1, 0, []), write_packet(1, 5, 5, 0, []), write_packet(1, 1, 1, 61, []),
            write_packet(1, 1, 1, 0, [256]), write_packet(2, 1, 1, 0, [1] * 17), write_packet(2, 0, 3, 0, [1]),
            write_packet(1, 2, 9, 0, []), write_packet(2, 2, 2, -1, [1]), write_packet(0, 1, 2, 0, [1]),
        ):
            self.check(call, [-1])
        for call in (
            write_packet(1, 1, 1, 0, []), write_packet(2, 2, 2, 0, [1]), write_packet(1, 4, 4, 0, [1]),
        ):
            self.check(call, [-6])

    def test_the_wires_stay(self):
        calls = [create_sites(2), post(1, 2, [3]), sync(1), transmit(1, 2), write_packet(1, 1, 2, 1, [3])]
        told = ask_after(calls, [list_packets(), totals()])
        self.assertEqual(told, [[0, 2, 1, 1, 2, 1, 2, 1, 2, 0], [0, 2, 2, 0, 1, 0]])


class ReadPacket(unittest.TestCase):
    def check_unreadable(self, rows):
        for row, told in zip(rows, ask_many([read_packet(row) for row in rows])):
            self.assertEqual(told, [0, 0], row)

    def test_every_pair_and_number_is_read_as_it_was_written(self):
        samples = list(SAMPLES)
        for sender, receiver in PAIRS:
            samples.extend([(1, sender, receiver, number, [number] * (number % 17)) for number in range(1, 61)])
            samples.extend([(2, sender, receiver, number, []) for number in range(61)])
        written = ask_many([write_packet(*sample) for sample in samples])
        read = ask_many([read_packet(told[1:]) for told in written])
        for sample, told in zip(samples, read):
            self.assertEqual(told, [0, 1] + list(sample[:4]) + sample[4])

    def test_every_length(self):
        for length in range(17):
            payload = list(range(200, 200 + length))
            written = ask([write_packet(1, 1, 2, 5, payload)])[0]
            self.assertEqual(len(written), 1 + 9 + length)
            self.assertEqual(ask([read_packet(written[1:])]), [[0, 1, 1, 1, 2, 5] + payload])

    def test_every_replaced_byte_makes_it_unreadable(self):
        for sample in SAMPLES:
            self.check_unreadable(with_one_replaced(octets_of(*sample)))

    def test_too_few_and_too_many_bytes(self):
        for sample in SAMPLES:
            octets = octets_of(*sample)
            rows = [octets[:length] for length in range(len(octets))] + [octets[1:], [0] + octets]
            rows.extend([octets + [further] for further in (0, 1, 255)])
            self.check_unreadable(rows)

    def test_the_empty_list(self):
        self.assertEqual(ask([read_packet([])]), [[0, 0]])

    def test_forty_and_forty_one_values(self):
        self.assertEqual(ask([read_packet([1] * 40), read_packet(with_checksum([1, 1, 2, 1, 31] + [0] * 31))]),
                         [[0, 0], [0, 0]])
        self.assertEqual(ask([read_packet([1] * 41), read_packet([0] * 60)]), [[-1], [-1]])

    def test_values_outside_their_limits(self):
        octets = octets_of(1, 1, 2, 1, [104, 105])
        for value in (256, -1, 1000, LARGE, -LARGE):
            for place in range(len(octets)):
                row = octets[:place] + [value] + octets[place + 1:]
                self.assertEqual(ask([read_packet(row)]), [[-1]])
            self.assertEqual(ask([read_packet([value]), read_packet([0] * 39 + [value])]), [[-1], [-1]])

    def test_values_that_would_have_the_same_checksum(self):
        # The first checksum byte would be one less, and the second 256 more.
        octets = octets_of(1, 1, 2, 1, [104, 105])
        row = octets[:-4] + [octets[-4] - 1, octets[-3] + 256] + octets[-2:]
        self.assertEqual(ask([read_packet(row)]), [[-1]])

    def test_bytes_that_are_no_packet_but_end_in_their_right_checksum(self):
        self.check_unreadable([with_checksum(body) for body in (
            [0, 1, 2, 1], [3, 1, 2, 1], [0, 1, 2, 1, 0], [3, 1, 2, 1, 0], [255, 1, 2, 1], [0, 1, 2, 1, 1, 5],
            [1, 1, 2, 1, 2, 7], [1, 1, 2, 1, 1, 7, 7], [1, 1, 2, 1, 1], [1, 1, 2, 1, 0, 7], [1, 1, 2, 1],
            [1, 1, 2, 1, 17] + [1] * 17, [1, 1, 2, 1, 17] + [1] * 16, [1, 1, 2, 1, 31] + [1] * 31,
            [1, 1, 1, 1, 0], [1, 4, 4, 1, 0], [2, 1, 1, 0], [2, 3, 3, 9], [1, 1, 2, 0, 0], [1, 1, 2, 61, 0],
            [1, 1, 2, 0, 1, 7], [2, 1, 2, 61], [2, 1, 2, 255], [1, 0, 2, 1, 0], [1, 1, 0, 1, 0], [1, 5, 2, 1, 0],
            [1, 1, 5, 1, 0], [2, 0, 1, 0], [2, 1, 0, 0], [2, 5, 1, 0], [2, 1, 5, 0], [2, 1, 2, 0, 0], [2, 1, 2], [2],
            [],
        )])

    def test_the_checksum_is_reduced_and_most_significant_first(self):
        body = [1, 1, 2, 1, 2, 104, 105]
        self.assertEqual(ask([read_packet(body + list((42353336).to_bytes(4, "big")))])[0][:2], [0, 1])
        self.check_unreadable([
            body + list((42353336).to_bytes(4, "little")), body + list((42353336 + 1000000007).to_bytes(4, "big")),
        ])

    def test_sites_that_do_not_exist_and_no_sites(self):
        for sender, receiver in PAIRS:
            octets = octets_of(1, sender, receiver, 60, [1])
            told = [0, 1, 1, sender, receiver, 60, 1]
            self.assertEqual(ask([read_packet(octets), create_sites(2), read_packet(octets)]), [told, [0, 2], told])

    def test_nothing_is_delivered(self):
        calls = [create_sites(2), post(1, 2, [3]), sync(1), read_packet(octets_of(1, 1, 2, 1, [3]))]
        self.assertEqual(ask_after(calls, [totals(), exchange()]), [[0, 2, 0, 0, 1, 0], [0, 1, 0]])


if __name__ == "__main__":
    unittest.main()
