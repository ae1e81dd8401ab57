"""Point 11, its last two: spans and doublings."""

import unittest

from ringvouch.classing import classes, period
from ringvouch.rules import Rule, one_way_rule, plain_rule
from ringvouch.spans import doublings, span
from tests.samples import chain, crowd, each_part, ends, part_rules, small_rules, two_wheels, wheel


def plain_span(rule, number, part):
    """The least T by going all walks to 120 steps: one more than the last n by which some mark isn't led to."""
    its_period = period(rule, number)
    of = dict(zip(part, classes(rule, number)))
    last = 0
    here = {mark: {mark} for mark in part}
    for n in range(1, 121):
        here = {mark: {b for a, b in rule.steps if a in here[mark]} for mark in part}
        for one in part:
            for other in part:
                if (of[other] - of[one]) % its_period == n % its_period and other not in here[one]:
                    last = n
    return last + 1


def left_out():
    """A round of eight marks with a step that leaves one out: mark 0 may stand behind 7 and behind 6."""
    steps = {(mark, (mark + 1) % 8) for mark in range(8)} | {(6, 0)}
    return Rule(tuple((6 - mark) % 8 for mark in range(8)), tuple(sorted(steps)))


class SpanTest(unittest.TestCase):
    def test_beside_all_walks(self):
        for rule, number, part in each_part(small_rules()[::3] + part_rules()):
            found = span(rule, number)
            self.assertEqual(found, plain_span(rule, number, part))
            self.assertIn(found, range(1, 51))

    def test_parts_of_one_mark(self):
        self.assertEqual(span(plain_rule(1, ((0, 0),)), 0), 1)
        self.assertEqual([span(chain(), part) for part in range(4)], [1, 1, 1, 1])

    def test_rounds(self):
        for many in range(1, 9):
            self.assertEqual(span(wheel(many, 0), 0), 1)
        self.assertEqual([span(one_way_rule(3, ((0, 1), (1, 2), (2, 0))), part) for part in (0, 1)], [1, 1])

    def test_all_beside_all(self):
        self.assertEqual(span(crowd(8), 0), 1)

    def test_a_round_of_eight_with_a_step_that_leaves_one_out(self):
        rule = left_out()
        self.assertEqual(span(rule, 0), 50)
        self.assertEqual(span(rule, 0), plain_span(rule, 0, tuple(range(8))))
        # Of 49 steps there is no walk from some mark to some other one.
        self.assertFalse(all(len(ends(rule, mark, 49)) == 8 for mark in range(8)))
        self.assertTrue(all(len(ends(rule, mark, 50)) == 8 for mark in range(8)))

    def test_periods_above_one(self):
        path = plain_rule(8, tuple((k, k + 1) for k in range(7)))
        self.assertEqual(span(path, 0), 6)
        self.assertEqual(span(plain_rule(4, ((0, 1), (1, 2), (2, 3), (3, 0))), 0), 1)
        for many, other in ((2, 4), (2, 6), (3, 6), (4, 4), (4, 2)):
            rule = two_wheels(many, other)
            self.assertGreater(period(rule, 0), 1)
            self.assertEqual(span(rule, 0), plain_span(rule, 0, tuple(range(rule.marks()))))

    def test_steps_that_lead_out_of_the_part(self):
        rule = one_way_rule(4, ((0, 1), (1, 0), (1, 2), (2, 3), (3, 2), (0, 3), (2, 2)))
        self.assertEqual([span(rule, part) for part in range(4)], [1, 2, 1, 2])

    def test_arguments_by_name_and_the_same_again(self):
        rule = two_wheels(3, 5)
        for _ in range(2):
            self.assertEqual(span(part=0, rule=rule), plain_span(rule, 0, tuple(range(7))))
        self.assertEqual(rule, two_wheels(3, 5))


class DoublingsTest(unittest.TestCase):
    def test_small_ones(self):
        self.assertEqual([doublings(span) for span in range(1, 10)], [0, 1, 2, 2, 3, 3, 3, 3, 4])

    def test_every_one_to_a_thousand(self):
        for number in range(1, 1000):
            self.assertEqual(doublings(number), min(m for m in range(12) if 2 ** m >= number))

    def test_powers_of_two_and_beside_them(self):
        for m in range(2, 100):
            self.assertEqual([doublings(2 ** m + more) for more in (-1, 0, 1)], [m, m, m + 1])

    def test_thirty_figures(self):
        self.assertEqual(doublings(10 ** 30 - 1), 100)
        self.assertEqual(doublings(10 ** 29), 97)

    def test_arguments_by_name(self):
        self.assertEqual(doublings(span=5), 3)
