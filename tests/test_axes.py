"""Point 9: axes and axis classes."""

import itertools
import unittest

from ringvouch.axes import axes, axis_classes
from ringvouch.classing import classes, period, turning
from ringvouch.parts import mirror_part, parts
from ringvouch.rules import Rule, one_way_rule, plain_rule
from tests.samples import (
    all_rings, chain, crowd, each_part, no_axes, part_rules, plain_axes, plain_axis_class, scattered_rules, small_rules,
    wheel,
)

SWAPPED = one_way_rule(2, ((0, 1), (1, 0)))
MIXED = Rule((0, 2, 1), ())


class AxesTest(unittest.TestCase):
    def test_beside_every_s_of_every_short_row(self):
        rules = [Rule(mirrors, ()) for mirrors in ((0, 1, 2), (0, 2, 1), (1, 0, 2), (2, 1, 0))]
        for rule in rules:
            for many in range(1, 7):
                for row in itertools.product(range(3), repeat=many):
                    self.assertEqual(axes(rule, row), plain_axes(rule, row))

    def test_one_mark(self):
        self.assertEqual(axes(MIXED, (0,)), (0, 1))
        self.assertEqual(axes(MIXED, (1,)), ())

    def test_one_mark_on_and_on(self):
        self.assertEqual(axes(crowd(2), (1,) * 5), tuple(range(10)))
        self.assertEqual(axes(MIXED, (0,) * 4), tuple(range(8)))
        self.assertEqual(axes(MIXED, (2,) * 4), ())

    def test_about_a_place_a_gap_and_both(self):
        self.assertEqual(axes(crowd(4), (0, 1, 2, 3, 2, 1)), (0, 6))
        self.assertEqual(axes(crowd(4), (0, 1, 2, 2, 1, 0)), (5, 11))
        self.assertEqual(axes(crowd(4), (0, 1, 2, 2, 1)), (0, 5))
        self.assertEqual(axes(SWAPPED, (0, 1, 3, 2)), (3, 7))
        self.assertEqual(axes(MIXED, (0, 1, 2)), (0, 3))

    def test_gone_round_two_and_three_times(self):
        row = (0, 1, 2, 2, 1)
        self.assertEqual(axes(crowd(3), row * 2), (0, 5, 10, 15))
        self.assertEqual(axes(crowd(3), row * 3), (0, 5, 10, 15, 20, 25))
        self.assertEqual(axes(SWAPPED, (0, 1, 3, 2) * 2), (3, 7, 11, 15))

    def test_turned(self):
        row = (0, 1, 2, 3, 2, 1)
        for by in range(6):
            wanted = sorted({(s - 2 * by) % 12 for s in (0, 6)})
            self.assertEqual(axes(crowd(4), row[by:] + row[:by]), tuple(wanted))

    def test_with_one_mark_otherwise(self):
        row = (0, 1, 2, 3, 2, 1)
        for at in range(6):
            other = row[:at] + (4,) + row[at + 1:]
            self.assertEqual(axes(crowd(5), other), (0, 6) if at in (0, 3) else ())

    def test_no_axis(self):
        self.assertEqual(axes(crowd(4), (0, 1, 2, 0, 2, 1, 1)), ())
        self.assertEqual(axes(SWAPPED, (0, 1)), ())
        self.assertEqual(axes(crowd(4), ()), ())

    def test_marks_whose_steps_the_rule_does_not_know(self):
        rule = plain_rule(3, ())
        self.assertEqual(axes(rule, (0, 1, 2, 1)), (0, 4))
        self.assertEqual(axes(chain(), (1, 4)), (1, 3))

    def test_longer_rows(self):
        half = tuple(at * at % 7 for at in range(200))
        rule = plain_rule(7, ())
        self.assertEqual(axes(rule, half + half[::-1]), plain_axes(rule, half + half[::-1]))
        self.assertEqual(axes(rule, (0,) * 299 + (1,)), (298, 598))


class AxisClassesTest(unittest.TestCase):
    def test_beside_the_words(self):
        for rule, number, part in each_part(small_rules() + part_rules()):
            wanted = set()
            if mirror_part(rule, number) == number:
                for mark, its_class in zip(part, classes(rule, number)):
                    mirror = rule.mirrors[mark]
                    wanted |= {2 * its_class} if mirror == mark else set()
                    wanted |= {2 * its_class + 1} if (mark, mirror) in rule.steps else set()
            found = axis_classes(rule, number)
            self.assertEqual(found, tuple(sorted(wanted)))
            self.assertLessEqual(len(found), 2)

    def test_just_those_that_rings_have(self):
        # Six places are enough for rules of so few marks to show each.
        rules = small_rules() + scattered_rules(4, 10) + [wheel(4, turn) for turn in range(4)] + [wheel(3, 1)]
        for rule in rules:
            found = [set() for _ in parts(rule)]
            for ring in [ring for n in range(1, 7) for ring in all_rings(rule, n)]:
                number = [at for at, part in enumerate(parts(rule)) if ring[0] in part][0]
                found[number] |= {plain_axis_class(rule, number, ring, s) for s in plain_axes(rule, ring)}
            for number, told in enumerate(found):
                self.assertEqual(told, set(axis_classes(rule, number)))

    def test_periods(self):
        self.assertEqual(axis_classes(crowd(3), 0), (0, 1))
        self.assertEqual(axis_classes(plain_rule(2, ((0, 1),)), 0), (0, 2))
        self.assertEqual(axis_classes(Rule((1, 0), ((0, 1), (1, 0))), 0), (1, 3))
        self.assertEqual([axis_classes(wheel(3, turn), 0) for turn in range(3)], [(0, 3), (1, 4), (2, 5)])
        for many in range(1, 9):
            for turn in range(many):
                self.assertEqual(axis_classes(wheel(many, turn), 0), (turn, turn + many))

    def test_marks_that_are_their_own_mirrors_alone(self):
        self.assertEqual(axis_classes(plain_rule(3, ((0, 1), (1, 2))), 0), (0, 2))
        rule = Rule((0, 2, 1), ((0, 1), (0, 2), (1, 0), (1, 1), (2, 0), (2, 2)))
        self.assertEqual(axis_classes(rule, 0), (0,))

    def test_marks_whose_mirrors_stand_behind_them_alone(self):
        every = tuple(itertools.product(range(2), repeat=2))
        self.assertEqual(axis_classes(Rule((1, 0), every), 0), (1,))
        rule = Rule((1, 0, 3, 2), ((0, 1), (0, 3), (1, 2), (2, 1), (2, 3), (3, 0)))
        self.assertEqual(period(rule, 0), 2)
        self.assertEqual(axis_classes(rule, 0), (1,))

    def test_none_though_it_is_its_own_mirror(self):
        self.assertEqual(mirror_part(no_axes(), 0), 0)
        self.assertEqual(axis_classes(no_axes(), 0), ())

    def test_of_parts_that_are_not_their_own_mirrors(self):
        # Mark 0 has its mirror right behind it, but that is no mark of its part.
        rule = Rule((1, 0), ((0, 0), (0, 1), (1, 1)))
        self.assertEqual([axis_classes(rule, part) for part in (0, 1)], [(), ()])
        self.assertEqual([axis_classes(chain(), part) for part in range(4)], [()] * 4)

    def test_where_steps_lead_out_of_the_part(self):
        rule = Rule((0, 2, 1), ((0, 0), (0, 1), (2, 0)))
        self.assertEqual(parts(rule), ((0,),))
        self.assertEqual(axis_classes(rule, 0), (0, 1))
        rule = Rule((0, 1, 3, 2), ((0, 1), (0, 2), (1, 0), (2, 2), (3, 0), (3, 3)))
        self.assertEqual([axis_classes(rule, part) for part in range(3)], [(0, 2), (), ()])

    def test_they_are_the_turning_by_the_period(self):
        for rule, number, part in each_part(part_rules()):
            for first in axis_classes(rule, number):
                self.assertEqual(first % period(rule, number), turning(rule, number))

    def test_arguments_by_name_and_the_same_again(self):
        rule, row = wheel(4, 1), (0, 1, 2, 3)
        for _ in range(2):
            self.assertEqual(axes(marks=row, rule=rule), (1, 5))
            self.assertEqual(axis_classes(part=0, rule=rule), (1, 5))
        self.assertEqual((rule, row), (wheel(4, 1), (0, 1, 2, 3)))
