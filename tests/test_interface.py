import random
import unittest

from surelinks.links import answers
from tests.asking import (
    LARGE, ask, ask_after, at_risk, crash, create_sites, damage, deliver, duplicate, exchange, is_settled, joined,
    link_state, list_packets, lose, packet_bytes, parted, post, read_packet, received, sync, totals, transmit,
    unsettled, write_packet,
)

# The calls 10 to 19, with the most that their form allows in front of other calls.
LATER_CALLS = [
    received(2, 1, 1, 60), link_state(1, 2, 0), unsettled(1, 2), list_packets(), packet_bytes(0),
    write_packet(1, 1, 2, 1, [104, 105]), write_packet(2, 2, 1, 0, []), write_packet(1, 1, 2, 1, [1] * 60),
    read_packet([1, 1, 2, 1, 2, 104, 105, 2, 134, 66, 184]), read_packet([]), read_packet([1] * 60),
    exchange(), is_settled(), totals(),
]

MIXED_REQUEST = [
    write_packet(1, 4, 3, 60, [1] * 16), read_packet([2, 2, 1, 0, 3, 12, 17, 9]),
    create_sites(3), post(1, 2, [7, 8]), post(1, 3, []), sync(1), transmit(1, 2), transmit(1, 3), duplicate(0),
    damage(0, 5, 9), list_packets(), packet_bytes(0), packet_bytes(4), deliver(0), deliver(3), received(2, 1, 1, 60),
    at_risk(2), crash(2), lose(0), post(9, 9, [1] * 60), deliver(-LARGE), totals(), exchange(), unsettled(1, 2),
    post(3, 1, [255] * 16), link_state(1, 3, 0), link_state(1, 3, 1), received(3, 1, 1, 1), exchange(), is_settled(),
    exchange(), is_settled(), totals(), received(1, 3, 1, 60), packet_bytes(0), list_packets(), read_packet([300]),
]


class Examples(unittest.TestCase):
    def check(self, rows):
        self.assertEqual(ask([call for call, told in rows]), [told for call, told in rows])

    def test_first_request(self):
        self.check([
            (create_sites(2), [0, 2]),
            (post(1, 2, [104, 105]), [0, 1]),
            (post(1, 2, [33]), [0, 2]),
            (transmit(1, 2), [0, 0, 0]),
            (list_packets(), [0, 1, 2, 1, 2, 0]),
            (lose(0), [0, 0]),
            (sync(1), [0, 2, 0, 0]),
            (transmit(1, 2), [0, 2, 0]),
            (deliver(1), [0, 3, 1, 2, 2]),
            (deliver(0), [0, 1, 1, 2, 1]),
            (received(2, 1, 1, 60), [0, 1, 2, 104, 105]),
            (at_risk(2), [0, 0, 1, 0]),
            (transmit(2, 1), [0, 0, 0]),
            (crash(2), [0, 0, 1, 0]),
            (unsettled(1, 2), [0, 2, 1]),
            (exchange(), [0, 2, 0]),
            (is_settled(), [0, 0]),
            (exchange(), [0, 0, 1]),
            (is_settled(), [0, 1]),
            (totals(), [0, 2, 0, 0, 2, 2]),
        ])

    def test_second_request(self):
        self.check([
            (write_packet(1, 1, 2, 1, [104, 105]), [0, 1, 1, 2, 1, 2, 104, 105, 2, 134, 66, 184]),
            (read_packet([1, 1, 2, 1, 2, 104, 105, 2, 134, 66, 184]), [0, 1, 1, 1, 2, 1, 104, 105]),
            (read_packet([1, 1, 2, 1, 2, 105, 105, 2, 134, 66, 184]), [0, 0]),
            (write_packet(2, 2, 1, 0, []), [0, 2, 2, 1, 0, 3, 12, 17, 9]),
            (post(1, 2, [1]), [-4]),
            (create_sites(3), [0, 3]),
            (post(1, 4, [1]), [-2]),
            (post(2, 2, [1]), [-6]),
            (deliver(0), [-3]),
        ])


class Form(unittest.TestCase):
    def test_how_many_numbers_stand_ahead_of_each_answer(self):
        calls = [0, 2, 1, 1, 2, 2, 104, 105, 1, 1, 1, 0, 2, 1, 5, 1, 2, 6, 0]
        told = [2, 0, 2, 2, 0, 1, 1, -6, 4, 0, 1, 0, 0, 3, 0, 1, 0, 5, 0, 1, 1, 2, 1]
        self.assertEqual(answers(calls), told)

    def test_one_call_alone(self):
        self.assertEqual(answers([0, 4]), [2, 0, 4])
        self.assertEqual(answers([6, 0]), [1, -4])

    def test_answers_are_a_list_of_int(self):
        told = answers(joined(MIXED_REQUEST))
        self.assertIs(type(told), list)
        self.assertEqual({type(number) for number in told}, {int})

    def test_two_hundred_calls(self):
        told = ask([create_sites(2)] + [post(1, 2, [200] * 60)] * 199)
        self.assertEqual(told, [[0, 2]] + [[-1]] * 199)

    def test_calls_of_every_number_are_read(self):
        for call in LATER_CALLS:
            with self.subTest(call=call):
                told = parted(answers(joined([create_sites(2), call, post(1, 2, [3]), sync(2)])))
                self.assertEqual(len(told), 4)
                self.assertEqual([told[0], told[2], told[3]], [[0, 2], [0, 1], [0, 0, 0, 0]])

    def test_lists_that_look_like_calls(self):
        told = ask([create_sites(2), post(1, 2, [0, 3, 2, 1]), post(1, 2, [0] * 16), sync(1)])
        self.assertEqual(told, [[0, 2], [0, 1], [0, 2], [0, 2, 0, 0]])


class AllTwentyCalls(unittest.TestCase):
    """Requests of 200 calls in which all twenty stand."""

    def requests(self):
        for seed in range(20):
            source = random.Random(seed)
            calls = MIXED_REQUEST * 5
            source.shuffle(calls)
            yield [create_sites(2 + seed % 3)] + calls + [sync(1)] * (199 - len(calls))

    def test_every_answer_is_given(self):
        for calls in self.requests():
            self.assertEqual({call[0] for call in calls}, set(range(20)))
            for call, told in zip(calls, ask(calls)):
                self.assertTrue(told[0] == 0 and len(told) > 1 or -9 <= told[0] <= -1 and len(told) == 1, call)

    def test_what_is_handed_in_stays_and_a_second_time_answers_as_the_first(self):
        for calls in self.requests():
            handed_in = joined(calls)
            before = list(handed_in)
            first = answers(handed_in)
            self.assertEqual(handed_in, before)
            self.assertEqual(answers(handed_in), first)


class NothingKept(unittest.TestCase):
    def test_what_is_handed_in_stays(self):
        handed_in = joined(MIXED_REQUEST)
        before = list(handed_in)
        answers(handed_in)
        self.assertEqual(handed_in, before)

    def test_what_is_handed_in_is_not_changed_for_a_while_either(self):
        class Fixed(list):
            def refuse(self, *ignored):
                raise AssertionError("the list that was handed in was changed")

            append = extend = insert = pop = remove = clear = sort = reverse = refuse
            __setitem__ = __delitem__ = __iadd__ = __imul__ = refuse

        handed_in = joined(MIXED_REQUEST)
        self.assertEqual(answers(Fixed(handed_in)), answers(handed_in))

    def test_a_second_time_answers_as_the_first(self):
        first = answers(joined(MIXED_REQUEST))
        self.assertEqual(answers(joined(MIXED_REQUEST)), first)

    def test_an_answer_is_not_kept_either(self):
        first = answers(joined(MIXED_REQUEST))
        before = list(first)
        first.clear()
        self.assertEqual(answers(joined(MIXED_REQUEST)), before)

    def test_sites_packets_and_duplicates_are_discarded(self):
        filling = [create_sites(4), post(1, 2, [1]), sync(1), transmit(1, 2)]
        full = filling + [duplicate(0)] * 100
        self.assertEqual(ask_after(full, [duplicate(0)]), [[-7]])
        self.assertEqual(ask([sync(1)]), [[-4]])
        self.assertEqual(ask([create_sites(2), deliver(0), sync(3)]), [[0, 2], [-3], [-2]])
        self.assertEqual(ask_after(filling, [duplicate(0)]), [[0, 3]])


if __name__ == "__main__":
    unittest.main()
