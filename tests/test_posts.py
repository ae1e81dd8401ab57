"""Point 16: posts; and point 3 (b), as far as posts are found by looks near by."""

import copy
import itertools
import unittest

from ringvouch.errors import RingError, TooMany
from ringvouch.parts import parts
from ringvouch.posts import number_of, posts, shortened
from ringvouch.rings import mirrored, turned
from ringvouch.rules import one_way_rule, plain_rule
from ringvouch.sights import text_of
from ringvouch.spans import doublings
from tests.samples import (
    Dice, back_of, closed, crowd, gaps_alone, halves_apart, kind_of, mirror_ring_of, mixed_ring, no_axes, part_walk,
    places_alone, plain_centres, plain_wild, scattered_rules, staircase, two_wheels, wheel,
)

SIDED = one_way_rule(2, ((0, 0), (0, 1), (1, 0)))
THREE = crowd(3)


def sample_rules():
    return [
        crowd(2), THREE, crowd(8), gaps_alone(), places_alone(), SIDED, no_axes(), two_wheels(2, 3), two_wheels(3, 4),
        plain_rule(4, ((0, 1), (1, 2), (2, 3), (3, 3))), *scattered_rules(6, 6),
    ]


def spread(ring, by):
    """The ring with each mark gone over so often: long stretches that come again by 1."""
    return tuple(mark for mark in ring for _ in range(by))


class PostsTest(unittest.TestCase):
    def stand_right(self, rule, wide, marks):
        """Asserts all that point 16 says of one ring by itself, and tells the posts."""
        n = len(marks)
        found = posts(rule, wide, ((1, marks),))
        self.assertEqual(kind_of(found), (int,) * len(found))
        self.assertEqual(list(found), sorted(set(found)))
        self.assertTrue(all(0 <= s < 2 * n for s in found))
        wild = plain_wild(wide, marks)
        centres = [
            s for s in plain_centres(rule, wide, marks)
            if any(halves_apart(s, 2 * place, n) < 2 * wide for place in wild)
        ]
        self.assertLessEqual(set(centres), set(found))
        for s in set(found) - set(centres):
            self.assertEqual(s % 2, 0)
            self.assertIn(s // 2, wild)
            self.assertTrue(all(halves_apart(s, centre, n) >= 2 * wide for centre in centres))
        for at, s in enumerate(found):
            self.assertTrue(all(halves_apart(s, other, n) >= 2 * wide for other in found[:at]))
        near = 2 * wide * (doublings(wide) + 1)
        for place in wild:
            self.assertTrue(any(halves_apart(2 * place, s, n) < near for s in found))
        if not wild:
            self.assertEqual(found, ())
        return found

    def come_along(self, rule, wide, marks, found, by):
        """Asserts that the posts come along where the ring is turned, read from the other side, gone round twice."""
        n = len(marks)
        ring = ((1, marks),)
        self.assertEqual(set(posts(rule, wide, turned(ring, by))), {(s - 2 * by) % (2 * n) for s in found})
        self.assertEqual(set(posts(rule, wide, mirrored(rule, ring))), {(2 * n - 2 - s) % (2 * n) for s in found})
        if 2 * n <= 3000:
            self.assertEqual(posts(rule, wide, ((2, marks),)), found + tuple(s + 2 * n for s in found))

    def is_right(self, rule, wide, marks, by=5):
        found = self.stand_right(rule, wide, marks)
        self.come_along(rule, wide, marks, found, by)
        return found

    def test_mixed_rings_of_small_spans(self):
        dice = Dice(1)
        for rule in sample_rules():
            for number in range(len(parts(rule))):
                for wide in (1, 2, 3, 4):
                    for _ in range(3):
                        marks = mixed_ring(rule, number, wide, dice)
                        self.is_right(rule, wide, marks, dice.below(len(marks)))

    def test_wild_rings_have_posts(self):
        dice = Dice(2)
        for wide in (1, 2, 3, 5, 8):
            marks = tuple(closed(THREE, part_walk(THREE, 0, 60 * wide, dice)))
            found = self.is_right(THREE, wide, marks, wide)
            self.assertGreater(len(found), 60 * wide // (2 * wide * (doublings(wide) + 1)) // 2)

    def test_small_rings(self):
        dice = Dice(3)
        for wide in (1, 2, 3):
            for n in range(1, 8 * wide + 4):
                for _ in range(4):
                    marks = tuple(dice.below(3) for _ in range(n))
                    found = self.is_right(THREE, wide, marks, 1)
                    if n <= 2 * wide:
                        self.assertEqual(found, ())

    def test_tame_rings_have_none(self):
        for rule, marks in ((THREE, (0,)), (THREE, (0, 1)), (wheel(8, 3), tuple(range(8))), (SIDED, (0, 0, 1))):
            for wide in (4, 5, 17, 50):
                for times in (1, 2, 7, 300):
                    self.assertEqual(posts(rule, wide, ((times, marks),)), ())
        self.assertEqual(posts(THREE, 1, ((1500, (0, 1)),)), ())
        self.assertNotEqual(posts(THREE, 1, ((1000, (0, 1, 2)),)), ())

    def test_a_period_of_just_twice_the_span_is_tame(self):
        for wide in (1, 2, 3, 4):
            ring = (0,) * (2 * wide - 1) + (1,)
            self.assertEqual(posts(THREE, wide, ((20, ring),)), ())
            self.assertNotEqual(posts(THREE, wide, ((20, (0,) + ring),)), ())

    def test_centres_through_places_and_gaps(self):
        dice = Dice(4)
        seen = set()
        for rule in (THREE, gaps_alone(), places_alone(), two_wheels(2, 3), plain_rule(3, ((0, 0), (0, 1), (1, 2)))):
            for wide in (1, 2, 3):
                for at in range(4):
                    marks = mirror_ring_of(rule, 0, 20 * wide + at, dice)
                    found = self.is_right(rule, wide, marks, dice.below(len(marks)))
                    seen |= {s % 2 for s in found}
        self.assertEqual(seen, {0, 1})

    def test_a_centre_far_from_wild_places_is_none(self):
        marks = (0,) * 100 + (1, 2, 1)
        found = self.is_right(THREE, 2, marks)
        self.assertIn(2 * 101, found)
        self.assertTrue(all(halves_apart(s, 202, len(marks)) < 60 for s in found))

    def test_a_centre_at_a_gap_near_wild_places(self):
        marks = (0,) * 40 + (1, 2, 2, 1) + (0,) * 40
        self.assertIn(2 * 41 + 1, self.is_right(THREE, 2, marks))

    def test_a_centre_just_near_enough_to_a_wild_place(self):
        # The wild places of this ring are those less than 4 * wide places from the 1.
        for wide in (1, 2, 3):
            for off in range(4 * wide - 1, 6 * wide + 2):
                marks = (1,) + (0,) * (2 * off + 16 * wide) + (2,) + (0,) * 40
                self.is_right(THREE, wide, marks)

    def test_long_rising_and_falling_runs_of_names(self):
        dice = Dice(5)
        for wide in (2, 3, 4, 5):
            for step in (1, 2 * wide + 1, 5 * wide, 8 * wide):
                found = self.is_right(crowd(8), wide, staircase(8, step), 7)
                self.assertNotEqual(found, ())
            up = tuple(mark for mark in range(8) for _ in range(8 * wide))
            tail = tuple(dice.below(8) for _ in range(60))
            self.is_right(crowd(8), wide, up + tail, 7)
            self.is_right(crowd(8), wide, tail + up[::-1], 7)

    def test_every_turn(self):
        dice = Dice(12)
        for wide in (2, 3, 4, 5, 9):
            rings = [tuple(dice.below(2) for _ in range(130)), mirror_ring_of(THREE, 0, 50, dice)]
            for rule, marks in [(THREE, ring) for ring in rings] + [(crowd(8), staircase(8, 8))]:
                n = len(marks)
                found = posts(rule, wide, ((1, marks),))
                for by in range(1, n, 1 + wide // 3):
                    turn = ((1, marks[by:] + marks[:by]),)
                    self.assertEqual(set(posts(rule, wide, turn)), {(s - 2 * by) % (2 * n) for s in found})

    def test_numbers_that_are_long_in_getting_short(self):
        # Each number leads on to the one behind it; of the first one a shortening less leaves a number above 5.
        names = [2 ** 130 + 1, 2 ** 129 + 3, 2 ** 128, 0]
        numbers = shortened(names, [[1], [2], [3], []])
        self.assertTrue(all(0 <= number < 6 for number in numbers))
        self.assertTrue(all(one != other for one, other in zip(numbers, numbers[1:])))
        dice = Dice(13)
        for _ in range(300):
            names = sorted({dice.below(2 ** 31) << dice.below(2000) for _ in range(30)})
            numbers = shortened(names, [[]] + [[at] for at in range(len(names) - 1)])
            self.assertTrue(all(0 <= number < 6 for number in numbers))
            self.assertTrue(all(one != other for one, other in zip(numbers, numbers[1:])))

    def test_names_of_unlike_marks_are_unlike(self):
        rows = [row for n in range(1, 4) for row in itertools.product(range(8), repeat=n)]
        self.assertEqual([number_of(text_of(row)) for row in rows], [int(text_of(row), 8) for row in rows])

    def test_wide_spans(self):
        dice = Dice(6)
        for wide in (7, 13, 50):
            marks = tuple(dice.below(2) for _ in range(8 * wide))
            self.is_right(THREE, wide, marks, 3)
            self.is_right(THREE, wide, mirror_ring_of(THREE, 0, 5 * wide, dice), 3)
            self.is_right(crowd(8), wide, staircase(8, wide), 3)

    def test_the_longest_rings(self):
        dice = Dice(7)
        marks = tuple(dice.below(3) for _ in range(3000))
        for wide in (1, 2, 50):
            found = posts(THREE, wide, ((1, marks),))
            self.come_along(THREE, wide, marks, found, 1234)
            self.assertTrue(all(b - a >= 2 * wide for a, b in zip(found, found[1:])))
            self.assertTrue(found)
        self.assertEqual(posts(THREE, 50, ((3000, (0,)),)), ())

    def test_too_many(self):
        for ring in (((3001, (0,)),), ((10 ** 29, (0, 1)),), ((1, (0, 1) * 1500), (1, (2,)))):
            for wide in (1, 50):
                with self.assertRaises(TooMany) as caught:
                    posts(THREE, wide, ring)
                self.assertIs(type(caught.exception), TooMany)
                self.assertIsInstance(caught.exception, RingError)

    def test_by_which_runs_the_ring_is_told_changes_nothing(self):
        ring = ((7, (0, 1, 1)), (40, (2,)), (2, (0, 2)))
        marks = (0, 1, 1) * 7 + (2,) * 40 + (0, 2) * 2
        for wide in (1, 2, 3):
            self.assertEqual(posts(THREE, wide, ring), posts(THREE, wide, ((1, marks),)))
            self.assertNotEqual(posts(THREE, wide, ring), ())

    def test_by_names_again_and_unchanged(self):
        ring = ((7, (0, 1, 1)), (40, (2,)))
        kept = copy.deepcopy(ring)
        found = posts(ring=ring, span=2, rule=THREE)
        self.assertEqual(found, posts(THREE, 2, ring))
        self.assertEqual(ring, kept)
        self.assertEqual(THREE, crowd(3))


class FarMarksTest(unittest.TestCase):
    def hangs_on_near_marks(self, rule, wide, near, others):
        """Asserts that in the midst of near there are the same posts whatever stands behind it."""
        far = 30 * wide * (doublings(wide) + 1)
        told = []
        for other in others:
            found = posts(rule, wide, ((1, near + other),))
            told.append([s for s in found if 2 * far <= s <= 2 * (len(near) - 1 - far)])
        self.assertTrue(all(rows == told[0] for rows in told))
        return told[0]

    def test_random_marks(self):
        dice = Dice(8)
        for wide, many in ((1, 200), (2, 400), (3, 700), (4, 800)):
            near = tuple(dice.below(3) for _ in range(many))
            others = [tuple(dice.below(3) for _ in range(dice.below(200))) for _ in range(4)] + [(), near, (0,) * 200]
            self.assertTrue(self.hangs_on_near_marks(THREE, wide, near, others))

    def test_names_that_rise_all_along(self):
        dice = Dice(9)
        for wide in (2, 3, 4, 5, 7):
            step = 8 * wide
            up = tuple(mark for mark in range(8) for _ in range(step))
            far = 30 * wide * (doublings(wide) + 1)
            lead = tuple(dice.below(8) for _ in range(max(0, far + 10 - len(up) // 2)))
            others = [tuple(dice.below(8) for _ in range(100)), (), (7,) * 90, up[::-1]]
            for near in (lead + up + lead, lead + up[::-1] + lead):
                self.assertTrue(self.hangs_on_near_marks(crowd(8), wide, near, others))

    def test_a_mirrored_stretch_within_other_marks(self):
        dice = Dice(10)
        for wide in (1, 2, 3):
            half = [dice.below(3) for _ in range(150 * wide)]
            near = tuple(half + back_of(THREE, half))
            others = [tuple(dice.below(3) for _ in range(50)), (), (1,) * 77]
            found = self.hangs_on_near_marks(THREE, wide, near, others)
            self.assertIn(2 * len(half) - 1, found)

    def test_a_tame_stretch_within_other_marks(self):
        dice = Dice(11)
        near = (0, 1, 1) * 200
        others = [tuple(dice.below(3) for _ in range(50)), (), (1,) * 77]
        self.assertEqual(self.hangs_on_near_marks(THREE, 2, near, others), [])
