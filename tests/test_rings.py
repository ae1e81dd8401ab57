"""Point 5: rings."""

import copy
import itertools
import unittest

from ringvouch.errors import RingError, TooMany
from ringvouch.rings import around, is_ring, mark_at, mirrored, places, spelled, turned
from ringvouch.rules import Rule, one_way_rule, plain_rule
from tests.samples import Strange, chain, crowd, is_walk, nested, oddities, small_rules, wheel

GREAT = 10 ** 29 + 12345678901
STEPPED = plain_rule(3, ((0, 1), (1, 2), (1, 1)))
RINGS = (
    ((1, (0,)),),
    ((3, (1,)),),
    ((1, (0, 1, 2)),),
    ((4, (2, 0, 1)),),
    ((1, (0, 1)), (2, (2,)), (1, (1,))),
    ((3, (0, 1)), (1, (2, 2, 1)), (2, (1, 0))),
    ((1, (0,)), (1, (1,)), (1, (2,)), (5, (0, 1, 1, 2))),
)


def written_out(ring):
    """All marks of a ring, one round after the other."""
    return tuple(mark for times, marks in ring for _ in range(times) for mark in marks)


def all_small_runs():
    """Rings or not: one run or two, of one to three marks 0 and 1 each, once or twice."""
    every = [marks for many in (1, 2, 3) for marks in itertools.product(range(2), repeat=many)]
    runs = [(times, marks) for times in (1, 2) for marks in every]
    return [ring for many in (1, 2) for ring in itertools.product(runs, repeat=many)]


class IsRingTest(unittest.TestCase):
    def test_beside_all_marks_written_out(self):
        for rule in [rule for rule in small_rules() if rule.marks() == 2]:
            for ring in all_small_runs():
                marks = written_out(ring)
                self.assertIs(is_ring(rule, ring), is_walk(rule, marks + marks[:1]))

    def test_rings_of_the_rule(self):
        good = [
            ((1, (1,)),), ((GREAT, (1,)),), ((1, (0, 1)),), ((GREAT, (0, 1)),), ((1, (1, 0)), (1, (1, 2))),
            ((GREAT, (0, 1)), (1, (2, 1)), (GREAT, (1,))), tuple([(1, (0, 1))] * 60), ((1, (0, 1) * 1500),),
        ]
        for ring in good:
            self.assertIs(is_ring(STEPPED, ring), True)

    def test_a_wrong_step_within_a_run(self):
        self.assertIs(is_ring(STEPPED, ((1, (1, 0, 2)),)), False)
        self.assertIs(is_ring(STEPPED, ((1, (1,)), (1, (1, 0, 0, 1)))), False)

    def test_a_wrong_step_from_one_run_to_the_next(self):
        self.assertIs(is_ring(STEPPED, ((1, (1, 0)), (1, (2, 1)))), False)
        self.assertIs(is_ring(STEPPED, ((1, (1, 0)), (1, (1, 2, 1)))), True)

    def test_a_wrong_step_from_a_run_to_its_own_beginning(self):
        for times in (2, 3, GREAT):
            self.assertIs(is_ring(STEPPED, ((times, (0, 1, 2)), (1, (1,)))), False)
        self.assertIs(is_ring(STEPPED, ((1, (0, 1, 2)), (1, (1,)))), True)
        self.assertIs(is_ring(STEPPED, ((1, (1,)), (2, (0,)), (1, (1,)))), False)

    def test_a_wrong_step_from_the_end_to_the_beginning(self):
        self.assertIs(is_ring(STEPPED, ((1, (0, 1, 2)),)), False)
        self.assertIs(is_ring(STEPPED, ((1, (0, 1)), (1, (1, 2)))), False)
        self.assertIs(is_ring(wheel(4, 0), ((1, (0, 1, 2)),)), False)

    def test_a_ring_of_one_place(self):
        self.assertIs(is_ring(STEPPED, ((1, (1,)),)), True)
        self.assertIs(is_ring(STEPPED, ((1, (0,)),)), False)

    def test_the_direction_counts(self):
        rule = one_way_rule(3, ((0, 1), (1, 2), (2, 0)))
        self.assertIs(is_ring(rule, ((5, (0, 1, 2)),)), True)
        self.assertIs(is_ring(rule, ((5, (2, 1, 0)),)), False)
        self.assertIs(is_ring(rule, ((5, (5, 4, 3)),)), True)
        self.assertIs(is_ring(rule, ((1, (0, 1, 2)), (1, (5, 4, 3)))), False)

    def test_wrong_times(self):
        for times in (0, -1, -GREAT, True, False, "1", None, (1,), [1], (), 1j, b"1", Strange()):
            with self.subTest(times=repr(times)[:80]):
                self.assertIs(is_ring(crowd(3), ((times, (1,)),)), False)
                self.assertIs(is_ring(crowd(3), ((1, (1,)), (times, (1,)))), False)

    def test_wrong_marks(self):
        wrong = [
            (), [1], "1", b"\x01", None, 1, {1}, {1: 1}, (3,), (-1,), (True,), (False,), (1, True), ("1",), (None,),
            ((1,),), ([1],), (1, nested(tuple, 27)), (GREAT,), (1, Strange()), Strange(), range(2), nested(tuple, 28),
        ]
        for marks in wrong:
            with self.subTest(marks=repr(marks)[:80]):
                self.assertIs(is_ring(crowd(3), ((1, marks),)), False)
                self.assertIs(is_ring(crowd(3), ((1, (1,)), (1, marks))), False)

    def test_wrong_runs(self):
        wrong = [
            (), [1, (1,)], (1,), ((1,),), (1, (1,), 1), ((1,), 1), None, 1, "11", {1: (1,)}, b"", True,
            nested(tuple, 29), nested(list, 29), Strange(),
        ]
        for run in wrong:
            with self.subTest(run=repr(run)[:80]):
                self.assertIs(is_ring(crowd(3), (run,)), False)
                self.assertIs(is_ring(crowd(3), ((1, (1,)), run)), False)

    def test_no_rings_of_any_kind(self):
        for thing in oddities() + [[(1, (1,))], (1, (1,)), {(1, (1,))}, {(1, (1,)): 1}, iter([(1, (1,))])]:
            with self.subTest(thing=repr(thing)[:80]):
                self.assertIs(is_ring(crowd(3), thing), False)

    def test_what_is_handed_in_stays_as_it_was(self):
        thing = [[1, [1, 2]], (1, [3])]
        kept = copy.deepcopy(thing)
        self.assertIs(is_ring(crowd(3), thing), False)
        self.assertIs(is_ring(crowd(3), tuple(thing)), False)
        self.assertEqual(thing, kept)
        rule = crowd(3)
        self.assertIs(is_ring(rule, RINGS[3]), is_ring(rule=rule, thing=RINGS[3]))
        self.assertEqual(rule, crowd(3))


class PlacesTest(unittest.TestCase):
    def test_small_rings(self):
        for ring in RINGS:
            self.assertEqual(places(ring), len(written_out(ring)))

    def test_thirty_figures(self):
        self.assertEqual(places(((GREAT, (0, 1, 2)),)), 3 * GREAT)
        self.assertEqual(places(((GREAT, (0, 1)), (1, (2,)), (GREAT, (1,)))), 3 * GREAT + 1)
        self.assertEqual(places(ring=((10 ** 30 - 1, (0,)),)), 10 ** 30 - 1)


class MarkAtTest(unittest.TestCase):
    def test_small_rings_at_all_places(self):
        for ring in RINGS:
            marks = written_out(ring)
            for place in range(-3 * len(marks), 3 * len(marks)):
                self.assertEqual(mark_at(ring, place), marks[place % len(marks)])

    def test_thirty_figures(self):
        ring = ((GREAT, (0, 1, 2)), (1, (1, 1)), (GREAT, (2, 0)))
        self.assertEqual(mark_at(ring, 3 * GREAT - 1), 2)
        self.assertEqual([mark_at(ring, 3 * GREAT + k) for k in range(-3, 6)], [0, 1, 2, 1, 1, 2, 0, 2, 0])
        self.assertEqual([mark_at(ring, k) for k in range(-3, 4)], [0, 2, 0, 0, 1, 2, 0])
        self.assertEqual(mark_at(ring, place=5 * GREAT + 2), 0)
        self.assertEqual(mark_at(ring, -(5 * GREAT + 2) * 2 + 1), 1)
        self.assertEqual(mark_at(((1, (2,)),), -GREAT), 2)


class AroundTest(unittest.TestCase):
    def test_small_rings_gone_round_again_and_again(self):
        for ring in RINGS:
            marks = written_out(ring)
            for place in range(-len(marks), 2 * len(marks)):
                for far in (0, 1, 2, 5, 17):
                    wanted = tuple(marks[at % len(marks)] for at in range(place - far, place + far + 1))
                    self.assertEqual(around(ring, place, far), wanted)

    def test_far_nought(self):
        self.assertEqual(around(((GREAT, (0, 1)),), GREAT, 0), (mark_at(((GREAT, (0, 1)),), GREAT),))

    def test_far_twenty_thousand(self):
        for ring in RINGS[:1] + RINGS[5:6]:
            marks = written_out(ring)
            wanted = tuple(marks[at % len(marks)] for at in range(7 - 20000, 7 + 20001))
            self.assertEqual(around(ring=ring, place=7, far=20000), wanted)

    def test_thirty_figures(self):
        ring = ((GREAT, (0, 1, 2)), (1, (1, 1)), (GREAT, (2, 0)))
        for place in (0, 1, 3 * GREAT, 3 * GREAT + 2, -5, -GREAT, GREAT * 7):
            marks = around(ring, place, 20000)
            self.assertEqual(len(marks), 40001)
            for at in (0, 1, 19998, 19999, 20000, 20001, 20002, 40000):
                self.assertEqual(marks[at], mark_at(ring, place - 20000 + at))
        self.assertEqual(around(ring, 3 * GREAT, 3), (0, 1, 2, 1, 1, 2, 0))
        self.assertEqual(around(ring, 0, 2), (2, 0, 0, 1, 2))


class TurnedTest(unittest.TestCase):
    def test_small_rings(self):
        for ring in RINGS:
            marks = written_out(ring)
            for by in range(-2 * len(marks), 2 * len(marks) + 1):
                at = by % len(marks)
                other = turned(ring, by)
                self.assertEqual(written_out(other), marks[at:] + marks[:at])
                self.assertTrue(is_ring(crowd(3), other))

    def test_thirty_figures(self):
        ring = ((GREAT, (0, 1, 2)), (1, (1, 1)), (GREAT, (2, 0)))
        many = places(ring)
        for by in (0, 1, 2, 3 * GREAT, 3 * GREAT + 1, 3 * GREAT - 1, 3 * GREAT + 3, many - 1, many, -1, -GREAT, GREAT):
            other = turned(ring, by)
            self.assertTrue(is_ring(crowd(3), other))
            self.assertEqual(places(other), many)
            for place in (0, 1, 2, 3, -1, -2, GREAT, -GREAT, 3 * GREAT, 3 * GREAT + 1, by, -by, -by - 1):
                self.assertEqual(mark_at(other, place), mark_at(ring, place + by))

    def test_a_ring_of_its_rule_stays_one(self):
        ring = ((GREAT, (0, 1)), (2, (2, 1)), (1, (1,)))
        self.assertTrue(is_ring(STEPPED, ring))
        for by in list(range(-8, 8)) + list(range(2 * GREAT - 3, 2 * GREAT + 7)):
            self.assertTrue(is_ring(STEPPED, turned(ring, by)))

    def test_again_and_again(self):
        ring = RINGS[5]
        marks = written_out(ring)
        for by in range(1, 60):
            ring = turned(ring, by=by)
            at = by * (by + 1) // 2 % len(marks)
            self.assertTrue(is_ring(crowd(3), ring))
            self.assertEqual(written_out(ring), marks[at:] + marks[:at])

    def test_what_is_handed_in_stays_as_it_was(self):
        ring = copy.deepcopy(RINGS[5])
        self.assertEqual(turned(ring, 4), turned(ring=ring, by=4))
        self.assertEqual(ring, RINGS[5])


class MirroredTest(unittest.TestCase):
    def test_small_rings(self):
        for rule in (crowd(3), Rule((1, 0, 2), crowd(3).steps), Rule((2, 1, 0), crowd(3).steps)):
            for ring in RINGS:
                other = mirrored(rule, ring)
                self.assertTrue(is_ring(rule, other))
                wanted = tuple(rule.mirrors[mark] for mark in reversed(written_out(ring)))
                self.assertEqual(written_out(other), wanted)

    def test_thirty_figures(self):
        rule = Rule((1, 0, 2), crowd(3).steps)
        ring = ((GREAT, (0, 1, 2)), (1, (1, 1)), (GREAT, (2, 0)))
        other = mirrored(rule=rule, ring=ring)
        many = places(ring)
        self.assertTrue(is_ring(rule, other))
        self.assertEqual(places(other), many)
        for place in (0, 1, 2, 3, -1, -2, GREAT, -GREAT, 2 * GREAT, 2 * GREAT + 1, 2 * GREAT + 2, 3 * GREAT):
            self.assertEqual(mark_at(other, place), rule.mirror(mark_at(ring, many - 1 - place)))

    def test_a_ring_of_its_rule_stays_one(self):
        rule = one_way_rule(3, ((0, 1), (1, 2), (2, 0), (0, 0)))
        ring = ((GREAT, (0, 1, 2)), (3, (0,)))
        self.assertTrue(is_ring(rule, ring))
        self.assertTrue(is_ring(rule, mirrored(rule, ring)))
        self.assertEqual(written_out(mirrored(rule, ((1, (0, 1, 2)), (3, (0,))))), (3, 3, 3, 5, 4, 3))
        self.assertTrue(is_ring(chain(), mirrored(chain(), ((GREAT, (2,)),))))

    def test_of_one_place_and_twice(self):
        rule = Rule((1, 0), ((0, 0), (1, 1)))
        self.assertEqual(spelled(mirrored(rule, ((1, (0,)),))), (1,))
        for ring in RINGS[:1] + RINGS[1:2]:
            self.assertEqual(spelled(mirrored(rule, mirrored(rule, ring))), spelled(ring))


class SpelledTest(unittest.TestCase):
    def test_small_rings(self):
        for ring in RINGS:
            self.assertEqual(spelled(ring), written_out(ring))

    def test_up_to_six_thousand_places(self):
        self.assertEqual(spelled(((5999, (0,)),)), (0,) * 5999)
        self.assertEqual(spelled(((5999, (0,)), (1, (1,)))), (0,) * 5999 + (1,))
        self.assertEqual(spelled(ring=((2000, (0, 1, 2)),)), (0, 1, 2) * 2000)
        self.assertEqual(spelled(((1, (0, 1) * 1500), (1, (1, 1) * 1500))), (0, 1) * 1500 + (1,) * 3000)

    def test_too_many_above(self):
        for ring in (((6001, (0,)),), ((6000, (0,)), (1, (1,))), ((GREAT, (0, 1)),), ((3001, (0, 1)),)):
            with self.assertRaises(TooMany) as caught:
                spelled(ring)
            self.assertIsInstance(caught.exception, RingError)

    def test_the_same_again(self):
        ring = copy.deepcopy(RINGS[6])
        self.assertEqual(spelled(ring), spelled(ring))
        self.assertEqual(ring, RINGS[6])
