"""Point 10: mirror sizes and least halves."""

import itertools
import unittest

from ringvouch.axes import axis_classes
from ringvouch.classing import period
from ringvouch.halves import half_axis, is_mirror_size, least_half, mirror_sizes, unfolded
from ringvouch.parts import parts
from ringvouch.rings import is_ring
from ringvouch.rules import Rule, plain_rule
from tests.samples import (
    chain, crowd, mirror_halves, part_rules, plain_axes, plain_axis_class, scattered_rules, small_rules,
    two_wheels, wheel,
)

GREAT = 10 ** 29 + 7


def searched_rules():
    """Rules few enough in marks that all their rings of few places can be gone through."""
    rules = small_rules() + scattered_rules(4, 15) + scattered_rules(5, 8)
    return rules + [wheel(4, turn) for turn in range(4)] + [two_wheels(2, 3), two_wheels(2, 4), chain()]


def firsts(rule):
    """Each part's number with each of its axis classes."""
    return [(number, first) for number in range(len(parts(rule))) for first in axis_classes(rule, number)]


def long_rules():
    """Rules with mirror rings of which the first ones come late, or one by one."""
    return [wheel(8, turn) for turn in range(8)] + [wheel(5, 2), two_wheels(3, 5), two_wheels(4, 4), two_wheels(2, 7)]


class BesideAllRingsTest(unittest.TestCase):
    def test_of_few_places(self):
        for rule in searched_rules():
            for n in range(1, 7 if rule.marks() < 4 else 6):
                halves = mirror_halves(rule, n)
                for number, first in firsts(rule):
                    wanted = halves.get((number, first), [])
                    self.assertIs(is_mirror_size(rule, number, first, n), len(wanted) > 0)
                    self.assertEqual(least_half(rule, number, first, n), min(wanted) if wanted else None)

    def test_all_rings_have_axes_of_axis_classes_alone(self):
        for rule in searched_rules():
            for n in range(1, 5):
                self.assertTrue(set(mirror_halves(rule, n)) <= set(firsts(rule)))

    def test_of_eight_places_and_more(self):
        for rule in (wheel(2, 0), wheel(2, 1), Rule((1, 0), ((0, 0), (0, 1), (1, 1))), plain_rule(2, ((0, 0), (0, 1)))):
            for n in range(7, 12):
                halves = mirror_halves(rule, n)
                for number, first in firsts(rule):
                    wanted = halves.get((number, first), [])
                    self.assertIs(is_mirror_size(rule, number, first, n), len(wanted) > 0)
                    self.assertEqual(least_half(rule, number, first, n), min(wanted) if wanted else None)


class IsMirrorSizeTest(unittest.TestCase):
    def test_rounds(self):
        for many in range(1, 9):
            for turn in range(many):
                for n in range(1, 40):
                    for first in (turn, turn + many):
                        self.assertIs(is_mirror_size(wheel(many, turn), 0, first, n), n % many == 0)

    def test_thirty_figures(self):
        for many in range(1, 9):
            for n in range(GREAT, GREAT + 17):
                self.assertIs(is_mirror_size(wheel(many, 1 % many), 0, 1 % many, n), n % many == 0)
        for rule in part_rules():
            for number, first in firsts(rule):
                rest = 2 * period(rule, number)
                for n in range(GREAT, GREAT + rest):
                    # So far out there is one wherever the next axis has an axis class.
                    wanted = (first + n) % rest in axis_classes(rule, number)
                    self.assertIs(is_mirror_size(rule, number, first, n), wanted)

    def test_marks_of_one_kind_alone(self):
        # Axes go through places alone: rings of odd size have none.
        rule = Rule((0, 2, 1), ((0, 1), (0, 2), (1, 0), (1, 1), (2, 0), (2, 2)))
        self.assertEqual([n for n in range(1, 10) if is_mirror_size(rule, 0, 0, n)], [4, 6, 8])
        # Axes go through gaps alone.
        rule = Rule((1, 0), tuple(itertools.product(range(2), repeat=2)))
        self.assertEqual([n for n in range(1, 10) if is_mirror_size(rule, 0, 1, n)], [2, 4, 6, 8])

    def test_each_axis_class_by_itself(self):
        # Mark 0 loops, so a gap has an axis there; mark 3 is far from it and its own mirror, too.
        rule = plain_rule(4, ((0, 0), (0, 1), (1, 2), (2, 3)))
        self.assertEqual(axis_classes(rule, 0), (0, 1))
        self.assertEqual([n for n in range(1, 9) if is_mirror_size(rule, 0, 0, n)], list(range(1, 9)))
        rule = two_wheels(3, 5)
        for first in axis_classes(rule, 0):
            found = [n for n in range(1, 200) if is_mirror_size(rule, 0, first, n)]
            self.assertEqual(found, [n for n in range(1, 200) if least_half(rule, 0, first, n) is not None])

    def test_mirror_sizes_are_those(self):
        for rule in part_rules() + small_rules():
            for number, first in firsts(rule):
                wanted = tuple(n for n in range(1, 41) if is_mirror_size(rule, number, first, n))
                self.assertEqual(mirror_sizes(rule, number, first, 40), wanted)

    def test_nought_is_no_mirror_size(self):
        self.assertIs(is_mirror_size(crowd(2), 0, 0, 0), False)
        self.assertIsNone(least_half(crowd(2), 0, 1, 0))


class LeastHalfTest(unittest.TestCase):
    def test_how_many_marks(self):
        for rule in part_rules():
            for number, first in firsts(rule):
                for n in range(1, 20):
                    half = least_half(rule, number, first, n)
                    self.assertIs(half is not None, is_mirror_size(rule, number, first, n))
                    if half is not None:
                        self.assertIsInstance(half, tuple)
                        self.assertEqual(len(half), n // 2 + 1 if first % 2 == 0 else (n + 1) // 2)

    def test_one_place(self):
        self.assertEqual(least_half(plain_rule(2, ((0, 1), (1, 1))), 0, 0, 1), (1,))
        self.assertEqual(least_half(plain_rule(2, ((0, 1), (1, 1))), 0, 1, 1), (1,))
        self.assertIsNone(least_half(plain_rule(2, ((0, 1),)), 0, 0, 1))
        self.assertIsNone(least_half(Rule((1, 0), tuple(itertools.product(range(2), repeat=2))), 0, 1, 1))

    def test_through_a_place_and_through_a_gap(self):
        rule = plain_rule(3, ((0, 1), (1, 2), (2, 2)))
        self.assertEqual([least_half(rule, 0, 0, n) for n in (1, 2, 3, 4, 5)],
                         [(2,), (0, 1), (1, 2), (0, 1, 0), (0, 1, 2)])
        self.assertEqual([least_half(rule, 0, 1, n) for n in (1, 2, 3, 4, 5)],
                         [(2,), (2,), (2, 1), (2, 2), (2, 1, 0)])

    def test_three_hundred(self):
        self.assertEqual(least_half(crowd(8), 0, 0, 300), (0,) * 151)
        self.assertEqual(least_half(crowd(8), 0, 1, 300), (0,) * 150)
        self.assertEqual(least_half(crowd(8), 0, 0, 299), (0,) * 150)
        self.assertEqual(least_half(crowd(8), 0, 1, 299), (0,) * 150)
        self.assertEqual(least_half(wheel(6, 0), 0, 0, 300), ((0, 1, 2, 3, 4, 5) * 26)[:151])
        self.assertEqual(least_half(wheel(6, 1), 0, 1, 300), ((1, 2, 3, 4, 5, 0) * 26)[:150])
        self.assertEqual(least_half(wheel(6, 1), 0, 7, 300), ((4, 5, 0, 1, 2, 3) * 26)[:150])
        self.assertIsNone(least_half(wheel(6, 0), 0, 0, 299))
        self.assertIsNone(least_half(wheel(7, 0), 0, 0, 300))

    def test_it_makes_a_ring_mirrored_there(self):
        for rule in part_rules() + long_rules():
            for number, first in firsts(rule):
                for n in (1, 2, 3, 4, 5, 8, 12, 15, 35, 40, 299, 300):
                    half = least_half(rule, number, first, n)
                    if half is None:
                        continue
                    ring = unfolded(rule, half, first, n)
                    s = half_axis(first, n)
                    self.assertEqual(len(ring), n)
                    self.assertTrue(is_ring(rule, ((1, ring),)))
                    self.assertTrue(set(ring) <= set(parts(rule)[number]))
                    if n < 50:
                        self.assertIn(s, plain_axes(rule, ring))
                    self.assertEqual(plain_axis_class(rule, number, ring, s), first)

    def test_arguments_by_name_and_the_same_again(self):
        rule = two_wheels(3, 5)
        for _ in range(2):
            self.assertIs(is_mirror_size(n=8, first=0, part=0, rule=rule), is_mirror_size(rule, 0, 0, 8))
            self.assertEqual(least_half(n=8, first=0, part=0, rule=rule), least_half(rule, 0, 0, 8))
        self.assertEqual(rule, two_wheels(3, 5))
