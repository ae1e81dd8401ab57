"""Point 12: fitting."""

import unittest

from ringvouch.classing import period
from ringvouch.fits import fits
from ringvouch.parts import parts
from ringvouch.rules import Rule, one_way_rule, plain_rule
from tests.samples import (
    chain, crowd, far_mirror_rules, far_rules, fitting_rules, gaps_alone, no_axes, places_alone, plain_fits,
    portraits, small_rules, two_wheels, wheel,
)

LOOP = crowd(1)


def good(rule, part, other, its):
    """The shifts, to somewhat beyond the last one, by which a part fits."""
    return [shift for shift in range(period(other, its) + 2) if fits(rule, part, other, its, shift)]


class BesideTheWordsTest(unittest.TestCase):
    def agree(self, rule, other):
        for part, c in enumerate(portraits(rule)):
            for its, d in enumerate(portraits(other)):
                for shift in range(d.period + 2):
                    self.assertIs(fits(rule, part, other, its, shift), plain_fits(c, d, shift))

    def test_small_rules(self):
        rules = small_rules()[::11]
        for rule in rules:
            for other in rules:
                self.agree(rule, other)

    def test_many_rules(self):
        rules = fitting_rules()
        for at, rule in enumerate(rules):
            for other in rules[at % 3::3]:
                self.agree(rule, other)


class SizesTest(unittest.TestCase):
    def test_a_small_size_that_lacks(self):
        edge = plain_rule(2, ((0, 1),))
        self.assertEqual(good(LOOP, 0, edge, 0), [])
        self.assertEqual(good(edge, 0, LOOP, 0), [0])

    def test_a_size_that_lacks_only_farther_on(self):
        one, other = far_rules()
        ours, theirs = portraits(one)[0], portraits(other)[0]
        self.assertEqual(min(ours.sizes - theirs.sizes), 7)
        self.assertEqual(good(one, 0, other, 0), [])

    def test_sizes_alone_where_a_part_is_not_its_own_mirror(self):
        # The same sizes as in far_rules, seen from one side: no axis and no turning matters.
        one, other = far_rules()
        sided = one_way_rule(4, ((0, 1), (1, 0), (0, 2), (2, 3), (3, 0)))
        self.assertEqual(portraits(sided)[0].sizes, portraits(one)[0].sizes)
        self.assertEqual([good(sided, part, other, 0) for part in (0, 1)], [[], []])
        self.assertEqual([good(sided, part, one, 0) for part in (0, 1)], [[0], [0]])

    def test_the_period_must_part_the_period(self):
        for many in range(1, 9):
            for other in range(1, 9):
                found = good(wheel(many, 0), 0, wheel(other, 0), 0)
                self.assertIs(len(found) > 0, many % other == 0)


class SidesTest(unittest.TestCase):
    loops = one_way_rule(1, ((0, 0),))

    def test_own_mirror_to_one_that_is_not(self):
        self.assertEqual([good(LOOP, 0, self.loops, its) for its in (0, 1)], [[], []])

    def test_though_it_has_no_mirror_ring(self):
        self.assertEqual(portraits(no_axes())[0].mirror_sizes, {})
        swap = one_way_rule(2, ((0, 1), (1, 0)))
        for other in (self.loops, swap):
            self.assertEqual([good(no_axes(), 0, other, its) for its in (0, 1)], [[], []])
        self.assertEqual(good(no_axes(), 0, LOOP, 0), [0])

    def test_one_that_is_not_to_an_own_mirror(self):
        self.assertEqual([good(self.loops, part, LOOP, 0) for part in (0, 1)], [[0], [0]])
        self.assertEqual([good(self.loops, part, gaps_alone(), 0) for part in (0, 1)], [[0], [0]])

    def test_both_are_not(self):
        for part in (0, 1):
            self.assertEqual([good(self.loops, part, self.loops, its) for its in (0, 1)], [[0], [0]])
            self.assertEqual([good(chain(), part, self.loops, its) for its in (0, 1)], [[0], [0]])

    def test_every_shift_where_it_is_not_its_own_mirror(self):
        round_of_four = one_way_rule(4, ((0, 1), (1, 2), (2, 3), (3, 0)))
        for turn in range(4):
            self.assertEqual(good(round_of_four, 0, wheel(4, turn), 0), [0, 1, 2, 3])
            self.assertEqual(good(wheel(4, turn), 0, round_of_four, 0), [])
        self.assertEqual(good(round_of_four, 1, wheel(2, 1), 0), [0, 1])


class TurningsTest(unittest.TestCase):
    def test_one_that_a_shift_mends(self):
        self.assertEqual(good(wheel(3, 1), 0, wheel(3, 0), 0), [1])
        self.assertEqual(good(wheel(3, 0), 0, wheel(3, 1), 0), [2])
        self.assertEqual(good(wheel(4, 0), 0, wheel(4, 2), 0), [1, 3])
        self.assertEqual(good(wheel(8, 6), 0, wheel(4, 0), 0), [1, 3])

    def test_one_that_none_does(self):
        self.assertEqual(good(wheel(4, 1), 0, wheel(4, 2), 0), [])
        self.assertEqual(good(wheel(8, 0), 0, wheel(2, 1), 0), [])

    def test_where_there_is_no_mirror_ring(self):
        self.assertEqual(good(no_axes(), 0, wheel(2, 1), 0), [])
        self.assertEqual(good(no_axes(), 0, wheel(2, 0), 0), [0, 1])
        self.assertEqual(good(no_axes(), 0, no_axes(), 0), [0, 1])

    def test_all_rounds(self):
        for many in range(1, 9):
            for other in [other for other in range(1, 9) if many % other == 0]:
                for one_turn in range(many):
                    for turn in range(other):
                        wanted = [shift for shift in range(other) if (one_turn + 2 * shift - turn) % other == 0]
                        self.assertEqual(good(wheel(many, one_turn), 0, wheel(other, turn), 0), wanted)


class MirrorRingsTest(unittest.TestCase):
    def test_an_axis_through_places_that_the_other_lacks(self):
        self.assertEqual(good(LOOP, 0, gaps_alone(), 0), [])
        self.assertEqual(good(gaps_alone(), 0, LOOP, 0), [0])

    def test_an_axis_through_gaps_that_the_other_lacks(self):
        self.assertEqual(good(LOOP, 0, places_alone(), 0), [])
        self.assertEqual(good(places_alone(), 0, LOOP, 0), [0])
        self.assertEqual(good(places_alone(), 0, gaps_alone(), 0), [])
        self.assertEqual(good(gaps_alone(), 0, places_alone(), 0), [])

    def test_a_mirror_size_alone_that_lacks(self):
        # places_alone has no mirror ring of two places; with a loop in the midst it has.
        midst = Rule((0, 2, 1), ((0, 0), (0, 1), (0, 2), (1, 0), (1, 1), (2, 0), (2, 2)))
        self.assertEqual(good(midst, 0, places_alone(), 0), [])
        self.assertEqual(good(places_alone(), 0, midst, 0), [0])

    def test_a_mirror_size_that_lacks_only_far_on(self):
        one, other = far_mirror_rules()
        ours, theirs = portraits(one)[1], portraits(other)[0]
        self.assertTrue(ours.sizes <= theirs.sizes)
        self.assertEqual(min(n for u, its in ours.mirror_sizes.items() for n in its - theirs.mirror_sizes[u]), 16)
        self.assertEqual(good(one, 1, other, 0), [])

    def test_of_two_shifts_that_the_turnings_leave_one(self):
        # Axes through gaps of one class alone: the shift must lead each axis to such a gap.
        rule = Rule((1, 0, 3, 2), ((0, 1), (0, 3), (1, 2), (2, 1), (2, 3), (3, 0)))
        self.assertEqual(period(rule, 0), 2)
        self.assertEqual(good(rule, 0, rule, 0), [0])
        self.assertEqual(good(rule, 0, wheel(2, 1), 0), [0, 1])
        self.assertEqual(good(wheel(2, 1), 0, rule, 0), [])


class ShiftsTest(unittest.TestCase):
    def test_none_from_the_period_on(self):
        for shift in (1, 2, 3, 10, 10 ** 29):
            self.assertIs(fits(LOOP, 0, LOOP, 0, shift), False)
        for shift in (4, 5, 7, 8, 4 * 10 ** 28):
            self.assertIs(fits(wheel(4, 0), 0, wheel(4, 0), 0, shift), False)
        self.assertIs(fits(wheel(4, 0), 0, wheel(4, 0), 0, 2), True)

    def test_each_part_of_several(self):
        rule = plain_rule(6, ((0, 0), (1, 2), (3, 4), (4, 5), (5, 3)))
        self.assertEqual(parts(rule), ((0,), (1, 2), (3, 4, 5)))
        wanted = [[[0], [], []], [[0], [0, 1], [0]], [[0], [], [0]]]
        found = [[good(rule, part, rule, its) for its in range(3)] for part in range(3)]
        self.assertEqual(found, wanted)

    def test_each_part_fits_itself(self):
        for rule in fitting_rules() + small_rules()[::7]:
            for part in range(len(parts(rule))):
                self.assertIs(fits(rule, part, rule, part, 0), True)

    def test_arguments_by_name_and_the_same_again(self):
        rule, other = wheel(6, 1), two_wheels(3, 6)
        for _ in range(2):
            found = [fits(shift=shift, its=0, other=other, part=0, rule=rule) for shift in range(4)]
            self.assertEqual(found, [fits(rule, 0, other, 0, shift) for shift in range(4)])
        self.assertEqual((rule, other), (wheel(6, 1), two_wheels(3, 6)))
