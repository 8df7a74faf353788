import unittest

from surelinks.sites import SiteCopy
from tests.asking import (
    LARGE, ask, ask_after, at_risk, crash, create_sites, damage, deliver, duplicate, lose, post, sync, transmit,
)

TWO = [create_sites(2)]
THREE = [create_sites(3)]


class CreateSites(unittest.TestCase):
    def test_two_to_four_sites(self):
        for count in (2, 3, 4):
            told = ask([create_sites(count)] + [sync(site) for site in range(1, 5)])
            self.assertEqual(told[0], [0, count])
            self.assertEqual(told[1:1 + count], [[0, 0, 0, 0]] * count)
            self.assertEqual(told[1 + count:], [[-2]] * (4 - count))

    def test_count_outside_its_limits(self):
        for count in (1, 5, 0, -2, LARGE, -LARGE):
            self.assertEqual(ask([create_sites(count), sync(1)]), [[-1], [-4]])

    def test_again_after_a_refusal(self):
        self.assertEqual(ask([create_sites(5), create_sites(4)]), [[-1], [0, 4]])

    def test_there_are_sites(self):
        self.assertEqual(ask_after(TWO, [create_sites(3), sync(3)]), [[-5], [-2]])

    def test_there_are_sites_is_checked_ahead_of_the_limits(self):
        for count in (1, 5, -LARGE, LARGE):
            self.assertEqual(ask_after(TWO, [create_sites(count)]), [[-5]])

    def test_refused_create_keeps_what_is_there(self):
        calls = TWO + [post(1, 2, [5]), create_sites(2)]
        self.assertEqual(ask_after(calls, [at_risk(1)]), [[0, 1, 0, 0]])


class Post(unittest.TestCase):
    def test_numbers_are_separate_for_each_pair(self):
        asked = [post(1, 2, [1]), post(1, 3, [1]), post(2, 1, [1]), post(1, 2, [1]), post(3, 2, [1]), post(1, 3, [2])]
        self.assertEqual(ask_after(THREE, asked), [[0, 1], [0, 1], [0, 1], [0, 2], [0, 1], [0, 2]])

    def test_payloads_within_the_limits(self):
        payloads = [[], [0], [255], [0, 255] * 8, [7] * 16]
        told = ask_after(TWO, [post(1, 2, payload) for payload in payloads])
        self.assertEqual(told, [[0, 1], [0, 2], [0, 3], [0, 4], [0, 5]])

    def test_payloads_outside_the_limits(self):
        payloads = [
            [1] * 17, [1] * 60, [-1], [256], [0] * 15 + [256], [-1] + [0] * 15, [LARGE], [-LARGE], [300] * 60,
        ]
        for payload in payloads:
            self.assertEqual(ask_after(TWO, [post(1, 2, payload), at_risk(1)]), [[-1], [0, 0, 0, 0]])

    def test_sites_outside_the_limits(self):
        for site in (0, -1, 5, LARGE, -LARGE):
            self.assertEqual(ask_after(TWO, [post(site, 1, []), post(1, site, [])]), [[-1], [-1]])

    def test_sites_that_do_not_exist(self):
        asked = [post(3, 1, []), post(1, 3, []), post(4, 2, []), post(2, 4, [])]
        self.assertEqual(ask_after(TWO, asked), [[-2]] * 4)
        self.assertEqual(ask_after(THREE, asked), [[0, 1], [0, 1], [-2], [-2]])

    def test_equal_sites(self):
        self.assertEqual(ask_after(TWO, [post(1, 1, []), post(2, 2, [9])]), [[-6], [-6]])

    def test_sixty_messages_to_one_site_and_one_more(self):
        told = ask_after(TWO, [post(1, 2, [1])] * 61)
        self.assertEqual(told, [[0, number] for number in range(1, 61)] + [[-7]])

    def test_sixty_messages_to_all_sites_together(self):
        calls = [create_sites(4)] + [post(1, 2, []), post(1, 3, []), post(1, 4, [])] * 20
        asked = [post(1, 2, []), post(1, 3, []), post(1, 4, []), at_risk(1), post(2, 1, [])]
        self.assertEqual(ask_after(calls, asked), [[-7], [-7], [-7], [0, 60, 0, 0], [0, 1]])

    def test_the_limit_counts_durable_and_acknowledged_messages(self):
        calls = TWO + [post(1, 2, [])] * 30 + [sync(1), transmit(1, 2)] + [deliver(0)] * 31
        calls = calls + [sync(2), transmit(2, 1), deliver(0), sync(1)] + [post(1, 2, [])] * 30
        self.assertEqual(ask_after(calls, [post(1, 2, [])]), [[-7]])

    def test_the_limit_does_not_count_received_messages(self):
        calls = TWO + [post(1, 2, [])] * 60 + [sync(1), transmit(1, 2)] + [deliver(0)] * 60
        self.assertEqual(ask_after(calls, [post(2, 1, []), at_risk(2)]), [[0, 1], [0, 1, 60, 0]])

    def test_a_crash_frees_numbers_and_they_are_used_again(self):
        calls = TWO + [post(1, 2, [])] * 20 + [sync(1)] + [post(1, 2, [])] * 40
        asked = [post(1, 2, []), crash(1), post(1, 2, [1]), post(1, 2, [2])]
        self.assertEqual(ask_after(calls, asked), [[-7], [0, 40, 0, 0], [0, 21], [0, 22]])

    def test_a_message_lost_by_a_crash_has_no_effect(self):
        calls = TWO + [post(1, 2, [66]), crash(1), post(1, 2, [77]), sync(1)]
        asked = [transmit(1, 2), damage(0, 5, 0), lose(0), lose(0)]
        self.assertEqual(ask_after(calls, asked), [[0, 1, 0], [0, 77], [0, 1], [0, 0]])


class EqualCopies(unittest.TestCase):
    """What is_settled asks, for each part of a copy alone."""

    def filled(self):
        copy = SiteCopy(2)
        copy.sent[2] = [[1], []]
        copy.acknowledged[2] = 1
        copy.received[2] = [[5, 6]]
        return copy

    def test_equal(self):
        self.assertTrue(SiteCopy(2).equals(SiteCopy(2)))
        self.assertTrue(self.filled().equals(self.filled()))
        self.assertTrue(self.filled().equals(self.filled().copied()))

    def test_different(self):
        self.assertFalse(self.filled().equals(SiteCopy(2)))
        for part, value in (("sent", [[1]]), ("acknowledged", 2), ("received", [[5, 7]])):
            other = self.filled()
            getattr(other, part)[2] = value
            self.assertFalse(self.filled().equals(other), part)
            self.assertFalse(other.equals(self.filled()), part)


class SyncCrashAtRisk(unittest.TestCase):
    received_two = THREE + [post(1, 2, [1]), post(1, 2, [2]), sync(1), transmit(1, 2), deliver(0), deliver(0)]

    def test_nothing_to_tell_at_first(self):
        self.assertEqual(ask_after(TWO, [sync(1), crash(1), at_risk(1)]), [[0, 0, 0, 0]] * 3)

    def test_posted_to_all_sites_together(self):
        calls = THREE + [post(1, 2, []), post(1, 3, []), post(1, 3, [])]
        for change in (sync, crash):
            asked = [at_risk(1), at_risk(1), change(1), at_risk(1), change(1)]
            told = [[0, 3, 0, 0], [0, 3, 0, 0], [0, 3, 0, 0], [0, 0, 0, 0], [0, 0, 0, 0]]
            self.assertEqual(ask_after(calls, asked), told)

    def test_received_from_all_sites_together(self):
        calls = self.received_two + [lose(0), post(3, 2, [3]), sync(3), transmit(3, 2), deliver(0)]
        for change in (sync, crash):
            asked = [at_risk(2), change(2), at_risk(2)]
            self.assertEqual(ask_after(calls, asked), [[0, 0, 3, 0], [0, 0, 3, 0], [0, 0, 0, 0]])

    def test_acknowledged_of_all_sites_together(self):
        calls = self.received_two + [lose(0), post(1, 3, []), sync(1), transmit(1, 3), deliver(0), deliver(0)]
        calls = calls + [sync(2), sync(3), transmit(2, 1), transmit(3, 1), deliver(0), deliver(0)]
        for change in (sync, crash):
            asked = [at_risk(1), change(1), at_risk(1)]
            self.assertEqual(ask_after(calls, asked), [[0, 0, 0, 3], [0, 0, 0, 3], [0, 0, 0, 0]])

    def test_all_three_at_once(self):
        calls = self.received_two + [lose(0), sync(2), post(2, 1, []), sync(2), post(1, 3, []), transmit(2, 1)]
        asked = [deliver(1), deliver(0), at_risk(1), crash(1)]
        told = [[0, 4, 2, 1, 2], [0, 1, 2, 1, 1], [0, 1, 1, 2], [0, 1, 1, 2]]
        self.assertEqual(ask_after(calls, asked), told)

    def test_only_what_is_new_since_the_last_sync(self):
        asked = [post(1, 2, []), sync(1), post(1, 2, []), post(1, 2, []), at_risk(1), sync(1)]
        self.assertEqual(ask_after(TWO, asked)[-2:], [[0, 2, 0, 0], [0, 2, 0, 0]])

    def test_a_crash_goes_back_to_the_last_sync(self):
        calls = TWO + [post(1, 2, []), sync(1), post(1, 2, []), crash(1)]
        self.assertEqual(ask_after(calls, [post(1, 2, []), crash(1), post(1, 2, [])]), [[0, 2], [0, 1, 0, 0], [0, 2]])

    def test_only_the_named_site_changes(self):
        calls = TWO + [post(1, 2, []), post(2, 1, []), post(2, 1, [])]
        self.assertEqual(ask_after(calls, [crash(1), at_risk(2), at_risk(1)])[1:], [[0, 2, 0, 0], [0, 0, 0, 0]])
        self.assertEqual(ask_after(calls, [sync(1), at_risk(2), at_risk(1)])[1:], [[0, 2, 0, 0], [0, 0, 0, 0]])

    def test_copies_are_independent_after_a_sync_and_after_a_crash(self):
        for change in (sync, crash):
            calls = self.received_two + [sync(1), sync(2), change(1), change(2)]
            asked = [post(1, 2, []), at_risk(1), crash(1), post(2, 1, []), sync(2), at_risk(2)]
            told = [[0, 3], [0, 1, 0, 0], [0, 1, 0, 0], [0, 1], [0, 1, 0, 0], [0, 0, 0, 0]]
            self.assertEqual(ask_after(calls, asked), told)

    def test_a_crash_keeps_the_wires_and_the_duplicated(self):
        calls = TWO + [post(1, 2, []), sync(1), transmit(1, 2)] + [duplicate(0)] * 99
        asked = [crash(1), duplicate(0), crash(1), crash(2), duplicate(0), lose(0)]
        told = [[0, 0, 0, 0], [0, 102], [0, 0, 0, 0], [0, 0, 0, 0], [-7], [0, 101]]
        self.assertEqual(ask_after(calls, asked), told)

    def test_site_outside_the_limits(self):
        for change in (sync, crash, at_risk):
            for site in (0, -1, 5, LARGE, -LARGE):
                self.assertEqual(ask_after(TWO, [change(site)]), [[-1]])

    def test_site_that_does_not_exist(self):
        for change in (sync, crash, at_risk):
            self.assertEqual(ask_after(TWO, [change(3), change(4), change(2)]), [[-2], [-2], [0, 0, 0, 0]])
            self.assertEqual(ask_after(THREE, [change(4), change(3)]), [[-2], [0, 0, 0, 0]])


if __name__ == "__main__":
    unittest.main()
