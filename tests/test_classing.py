"""Point 7: periods, classes and turnings."""

import math
import unittest

from ringvouch.classing import classes, period, turning
from ringvouch.parts import mirror_part, parts
from ringvouch.rules import Rule, one_way_rule, plain_rule
from tests.samples import chain, closed_sizes, crowd, each_part, part_rules, small_rules, two_wheels, wheel


class PeriodTest(unittest.TestCase):
    def test_the_greatest_number_that_parts_all_sizes(self):
        for rule, number, part in each_part(small_rules() + part_rules()):
            # Every way round that comes past no mark twice is among these.
            self.assertEqual(period(rule, number), math.gcd(*closed_sizes(rule, part, 2 * len(rule.mirrors))))

    def test_each_period_to_eight(self):
        for many in range(1, 9):
            for turn in range(many):
                self.assertEqual(period(wheel(many, turn), 0), many)
        for many in range(1, 5):
            rule = one_way_rule(many, tuple((k, (k + 1) % many) for k in range(many)))
            self.assertEqual([period(rule, part) for part in range(2)], [many, many])

    def test_two_wheels(self):
        for many in range(1, 8):
            for other in range(1, 9 - many):
                self.assertEqual(period(two_wheels(many, other), 0), math.gcd(many, other))

    def test_a_step_out_of_the_part_counts_nothing(self):
        rule = one_way_rule(4, ((0, 1), (1, 0), (1, 2), (2, 3), (3, 2), (0, 3), (0, 2)))
        self.assertEqual([period(rule, part) for part in range(4)], [2, 2, 2, 2])
        self.assertEqual([period(chain(), part) for part in range(4)], [1, 1, 1, 1])


class ClassesTest(unittest.TestCase):
    def test_one_more_along_each_step(self):
        for rule, number, part in each_part(small_rules() + part_rules()):
            its_period = period(rule, number)
            found = classes(rule, number)
            self.assertIsInstance(found, tuple)
            self.assertEqual(len(found), len(part))
            self.assertEqual(found[0], 0)
            self.assertTrue(all(0 <= k < its_period for k in found))
            of = dict(zip(part, found))
            for a, b in rule.steps:
                if a in of and b in of:
                    self.assertEqual((of[a] + 1) % its_period, of[b])

    def test_some(self):
        self.assertEqual(classes(wheel(8, 5), 0), (0, 1, 2, 3, 4, 5, 6, 7))
        self.assertEqual(classes(crowd(8), 0), (0,) * 8)
        self.assertEqual(classes(plain_rule(4, ((0, 3), (0, 2), (1, 2))), 0), (0, 0, 1, 1))
        rule = one_way_rule(3, ((0, 2), (2, 1), (1, 0)))
        self.assertEqual([classes(rule, part) for part in (0, 1)], [(0, 2, 1), (0, 1, 2)])


class TurningTest(unittest.TestCase):
    def test_the_same_of_all_marks(self):
        for rule, number, part in each_part(small_rules() + part_rules()):
            other = mirror_part(rule, number)
            its_period = period(rule, number)
            its = dict(zip(part, classes(rule, number)))
            mirrors = dict(zip(parts(rule)[other], classes(rule, other)))
            for mark in part:
                together = its[mark] + mirrors[rule.mirrors[mark]]
                self.assertEqual(together % its_period, turning(rule, number))
            self.assertIn(turning(rule, number), range(its_period))
            self.assertEqual(turning(rule, number), turning(rule, other))

    def test_of_a_part_that_is_its_own_mirror(self):
        for many in range(1, 9):
            for turn in range(many):
                self.assertEqual(turning(wheel(many, turn), 0), turn)
        self.assertEqual(turning(crowd(4), 0), 0)
        self.assertEqual(turning(plain_rule(2, ((0, 1),)), 0), 0)
        self.assertEqual(turning(Rule((1, 0), ((0, 1), (1, 0))), 0), 1)

    def test_of_a_part_that_is_not(self):
        rule = Rule((5, 3, 4, 1, 2, 0), ((0, 1), (1, 2), (2, 0), (3, 5), (4, 3), (5, 4)))
        self.assertEqual(parts(rule), ((0, 1, 2), (3, 4, 5)))
        self.assertEqual([classes(rule, part) for part in (0, 1)], [(0, 1, 2), (0, 2, 1)])
        self.assertEqual([turning(rule, part) for part in (0, 1)], [1, 1])
        rule = one_way_rule(4, ((0, 1), (1, 2), (2, 3), (3, 0)))
        self.assertEqual([turning(rule, part) for part in (0, 1)], [0, 0])

    def test_arguments_by_name_and_the_same_again(self):
        rule = wheel(6, 2)
        self.assertEqual(period(rule=rule, part=0), period(rule, 0))
        self.assertEqual(classes(rule=rule, part=0), classes(rule, 0))
        self.assertEqual(turning(rule=rule, part=0), turning(rule, 0))
        self.assertEqual(rule, wheel(6, 2))
