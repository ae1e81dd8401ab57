"""Point 11, its first two: walks."""

import unittest

from ringvouch.rules import Rule, one_way_rule, plain_rule
from ringvouch.walks import has_walk, least_walk
from tests.samples import (
    all_walks, chain, crowd, ends, is_walk, part_rules, scattered_rules, small_rules, two_wheels, wheel,
)

GREAT = 10 ** 29 + 7


class HasWalkTest(unittest.TestCase):
    def test_no_step_leads_from_each_mark_to_itself_alone(self):
        for rule in small_rules() + part_rules():
            for one in range(rule.marks()):
                for other in range(rule.marks()):
                    self.assertIs(has_walk(rule, one, other, 0), one == other)

    def test_small_n(self):
        for rule in part_rules():
            for n in (1, 2, 3, 4, 5, 6, 7, 8, 21):
                for one in range(rule.marks()):
                    there = ends(rule, one, n)
                    for other in range(rule.marks()):
                        self.assertIs(has_walk(rule, one, other, n), other in there)

    def test_beside_all_walks(self):
        for rule in small_rules():
            for n in range(5):
                pairs = {(walk[0], walk[-1]) for walk in all_walks(rule, n)}
                for one in range(rule.marks()):
                    for other in range(rule.marks()):
                        self.assertIs(has_walk(rule, one, other, n), (one, other) in pairs)

    def test_marks_on_no_ring(self):
        rule = Rule((1, 0), ((0, 1),))
        self.assertEqual([has_walk(rule, 0, 1, n) for n in range(4)], [False, True, False, False])
        self.assertIs(has_walk(rule, 0, 1, GREAT), False)
        self.assertEqual([has_walk(chain(), 1, 2, n) for n in (0, 1, 2, GREAT)], [False, True, True, True])
        self.assertEqual([has_walk(chain(), 1, 1, n) for n in (0, 1, 2, GREAT)], [True, False, False, False])

    def test_marks_in_different_parts(self):
        self.assertEqual([has_walk(chain(), 0, 2, n) for n in (0, 1, 2, 3, GREAT)], [False, False, True, True, True])
        self.assertEqual([has_walk(chain(), 2, 0, n) for n in (1, 2, 3, GREAT)], [False] * 4)
        rule = one_way_rule(4, ((0, 1), (1, 0), (1, 2), (2, 3), (3, 2)))
        for n in (1, 2, 3, 4, 5, 6, GREAT, GREAT + 1):
            self.assertIs(has_walk(rule, 0, 2, n), n % 2 == 0)
            self.assertIs(has_walk(rule, 0, 4, n), False)

    def test_thirty_figures(self):
        for many in range(1, 9):
            for n in range(GREAT, GREAT + 9):
                for other in range(many):
                    self.assertIs(has_walk(wheel(many, 0), 0, other, n), n % many == other)
        self.assertIs(has_walk(crowd(8), 3, 5, 10 ** 30 - 1), True)


class LeastWalkTest(unittest.TestCase):
    def test_beside_all_walks(self):
        for rule in small_rules() + scattered_rules(4, 8) + scattered_rules(6, 8):
            for n in range(5):
                walks = all_walks(rule, n)
                for one in range(rule.marks()):
                    for other in range(rule.marks()):
                        wanted = [walk for walk in walks if (walk[0], walk[-1]) == (one, other)]
                        self.assertEqual(least_walk(rule, one, other, n), wanted[0] if wanted else None)

    def test_longer_ones_of_thin_rules(self):
        for rule in (two_wheels(3, 4), two_wheels(2, 3), chain(), wheel(5, 0)):
            walks = all_walks(rule, 12)
            for one in range(rule.marks()):
                for other in range(rule.marks()):
                    wanted = [walk for walk in walks if (walk[0], walk[-1]) == (one, other)]
                    self.assertEqual(least_walk(rule, one, other, 12), wanted[0] if wanted else None)

    def test_six_thousand(self):
        self.assertEqual(least_walk(crowd(8), 3, 7, 6000), (3,) + (0,) * 5999 + (7,))
        self.assertEqual(least_walk(wheel(6, 0), 0, 0, 6000), (0, 1, 2, 3, 4, 5) * 1000 + (0,))
        self.assertEqual(least_walk(two_wheels(3, 5), 0, 0, 5999), (0, 1, 2) * 1998 + (0, 3, 4, 5, 6, 0))
        self.assertEqual(least_walk(chain(), 0, 2, 6000), (0,) * 5999 + (1, 2))
        for rule in part_rules():
            walk = least_walk(rule, 0, rule.marks() - 1, 6000)
            self.assertIs(walk is None, not has_walk(rule, 0, rule.marks() - 1, 6000))
            if walk is not None:
                self.assertEqual((len(walk), walk[0], walk[-1]), (6001, 0, rule.marks() - 1))
                self.assertTrue(is_walk(rule, walk))

    def test_none(self):
        self.assertIsNone(least_walk(wheel(6, 0), 0, 0, 5999))
        self.assertIsNone(least_walk(chain(), 2, 0, 6000))
        self.assertIsNone(least_walk(plain_rule(2, ()), 0, 0, 1))

    def test_no_step(self):
        self.assertEqual(least_walk(plain_rule(2, ()), 1, 1, 0), (1,))
        self.assertIsNone(least_walk(crowd(2), 0, 1, 0))

    def test_arguments_by_name_and_the_same_again(self):
        rule = two_wheels(3, 5)
        self.assertEqual(has_walk(rule=rule, one=0, other=1, n=9), has_walk(rule, 0, 1, 9))
        self.assertEqual(least_walk(rule=rule, one=0, other=1, n=9), least_walk(rule, 0, 1, 9))
        self.assertEqual(rule, two_wheels(3, 5))
