"""Point 17: lookers; and point 3 (a) to (d), as far as lookers go."""

import copy
import itertools
import unittest

from ringvouch.errors import NoLooker, NoPlan, NoRing, TooMany
from ringvouch.judging import judged
from ringvouch.lookers import Looker
from ringvouch.names import read_back
from ringvouch.parts import mirror_part, part_of, parts
from ringvouch.rings import around, is_ring, mirrored, places, turned
from ringvouch.rules import Rule, one_way_rule, plain_rule
from ringvouch.spans import doublings, span
from tests.samples import (
    Dice, Strange, all_rings, axis_spots, chain, closed, crowd, faults, fitting_rules, gaps_alone, great_rules,
    is_plain_plan, kind_of, mirror_ring_of, mixed_ring, nested, no_axes, oddities, part_walk, places_alone,
    plain_pairs, portraits, small_rules, two_wheels, wheel,
)

EDGE = plain_rule(2, ((0, 1),))
NONE = plain_rule(3, ())
SIDED = one_way_rule(1, ((0, 0),))
# One part of span 4, with rings of every size.
SLOW = plain_rule(4, ((0, 1), (1, 2), (2, 3), (3, 3)))


def wide_rule(many):
    """A wheel with one step more, by which there are rings of one place fewer: as wide a span as there can be."""
    steps = {(k, (k + 1) % many) for k in range(many)} | {(many - 2, 0)}
    return Rule(tuple((many - 2 - k) % many for k in range(many)), tuple(sorted(steps)))


def greatest_span(looker):
    return max(span(looker.other, its) for its, shift in looker.plan)


def looking_pairs(rules):
    """All pairs of these rules of which the first one has a part and leads to the second one."""
    pairs = itertools.product(rules, rules)
    return [(rule, other) for rule, other in pairs if parts(rule) and judged(rule, other)[0] == "plan"]


def some_plans(rule, other):
    """Plans by words of point 13, all of them where there are few, found among tuples of pairs by which parts fit."""
    able = [plain_pairs(c, portraits(other))[:4] for c in portraits(rule)[:4]]
    able += [plain_pairs(c, portraits(other))[:1] for c in portraits(rule)[4:]]
    return [plan for plan in itertools.product(*able) if is_plain_plan(rule, other, plan)]


class RightTest(unittest.TestCase):
    def tells_a_ring(self, looker, marks):
        """Asserts that what is told of the ring is a ring as it must be, and tells it."""
        told = looker.told_all(((1, marks),))
        self.assertTrue(is_ring(looker.rule, ((1, marks),)))
        part = part_of(looker.rule, marks[0])
        faults(self, looker.rule, looker.other, looker.plan, part, marks, told)
        return told

    def is_right(self, looker, marks, by):
        n = len(marks)
        ring = ((1, marks),)
        told = self.tells_a_ring(looker, marks)
        self.assertEqual(looker.told_all(turned(ring, by)), told[by % n:] + told[:by % n])
        self.assertEqual(looker.told_all(mirrored(looker.rule, ring)), read_back(looker.other, told))
        if 2 * n <= 3000:
            self.assertEqual(looker.told_all(((2, marks),)), told + told)
        return told

    def looks_near(self, looker, marks, told, place):
        """Asserts that told and near agree with told_all at the place, read from the other side, too."""
        ring = ((1, marks),)
        seen = around(ring, place, looker.reach())
        mark = told[place % len(marks)]
        self.assertEqual(looker.told(ring, place), mark)
        self.assertEqual(looker.near(seen), mark)
        self.assertEqual(looker.near(read_back(looker.rule, seen)), looker.other.mirror(mark))

    def test_every_ring_of_few_places(self):
        rules = small_rules()[::9] + [EDGE, SIDED, SLOW, wheel(4, 1), gaps_alone(), places_alone(), no_axes(), chain()]
        for rule, other in looking_pairs(rules)[::3]:
            looker = Looker(rule, other)
            for n in range(1, 5):
                for marks in all_rings(rule, n)[::2]:
                    self.is_right(looker, marks, 1)

    def test_every_ring_of_a_few_more_places(self):
        for rule, other in ((crowd(2), SLOW), (gaps_alone(), crowd(2)), (two_wheels(2, 3), two_wheels(2, 3))):
            looker = Looker(rule, other)
            for n in range(1, 9 if rule.marks() == 2 else 7):
                for marks in all_rings(rule, n)[n % 2::2]:
                    told = self.is_right(looker, marks, 2)
                    self.looks_near(looker, marks, told, n // 2)

    def test_mixed_rings(self):
        dice = Dice(21)
        pairs = looking_pairs(fitting_rules() + great_rules()[::4])
        for rule, other in pairs[::4]:
            looker = Looker(rule, other)
            wide = greatest_span(looker)
            number = dice.below(len(parts(rule)))
            marks = mixed_ring(rule, number, min(wide, 8), dice)
            told = self.is_right(looker, marks, dice.below(len(marks)))
            self.looks_near(looker, marks, told, dice.below(len(marks)))

    def test_mirror_rings_of_both_kinds_of_axes(self):
        dice = Dice(22)
        pairs = looking_pairs(fitting_rules())
        for rule, other in pairs[::3]:
            looker = Looker(rule, other)
            for number in range(len(parts(rule))):
                if mirror_part(rule, number) == number and axis_spots(rule, number):
                    for n in (1, 2, 3, 30, 31):
                        marks = mirror_ring_of(rule, number, n, dice)
                        self.is_right(looker, marks, dice.below(len(marks)))

    def test_every_place_of_some_rings(self):
        dice = Dice(23)
        for rule, other in ((crowd(3), SLOW), (crowd(2), places_alone()), (SIDED, SLOW), (two_wheels(2, 3),) * 2):
            if judged(rule, other)[0] == "none":
                continue
            looker = Looker(rule, other)
            for _ in range(3):
                marks = mixed_ring(rule, 0, 4, dice)
                told = self.tells_a_ring(looker, marks)
                for place in range(0, len(marks), 1 + len(marks) // 40):
                    self.looks_near(looker, marks, told, place)

    def test_tame_stretches_between_wild_ones(self):
        dice = Dice(24)
        rule = crowd(3)
        for other in (SLOW, crowd(2), places_alone(), two_wheels(1, 4)):
            if judged(rule, other)[0] == "none":
                continue
            looker = Looker(rule, other)
            for cycle in ((0,), (0, 1), (0, 1, 2), (0, 0, 1), (0, 1, 2, 1), (0, 0, 1, 2), (0, 1, 0, 2)):
                for times in (1, 5, 9, 20, 60, 150):
                    knot = tuple(dice.below(3) for _ in range(dice.below(12)))
                    self.is_right(looker, cycle * times + knot, dice.below(50))
                    self.is_right(looker, cycle * times + knot + cycle[::-1] * times + knot[::-1], dice.below(50))

    def test_alike_stretches_between_posts(self):
        # Between the two knots all is the same from both sides; from far to near.
        dice = Dice(25)
        rule = crowd(3)
        looker = Looker(rule, SLOW)
        for gap in range(0, 150, 7):
            knot = tuple(dice.below(3) for _ in range(40))
            for cycle in ((0,), (0, 1)):
                midst = (cycle * gap)[:gap]
                self.is_right(looker, knot + midst + knot[::-1] + tuple(dice.below(3) for _ in range(30)), gap)

    def test_parts_of_each_sort(self):
        dice = Dice(26)
        rule = Rule((0, 1, 2, 4, 3, 6, 5), tuple(sorted((
            (0, 0), (1, 2), (2, 1), (3, 3), (4, 4), (5, 5), (6, 6), (3, 0), (0, 4),
        ))))
        self.assertEqual(parts(rule), ((0,), (1, 2), (3,), (4,), (5,), (6,)))
        looker = Looker(rule, rule)
        for number, part in enumerate(parts(rule)):
            for n in (2, 8, 20):
                self.is_right(looker, tuple(closed(rule, part_walk(rule, part[0], n, dice))), 3)

    def test_periods_above_one(self):
        dice = Dice(27)
        for many, other in ((8, wheel(4, 1)), (6, wheel(3, 2)), (4, wheel(4, 1)), (6, wheel(2, 0)), (8, wheel(2, 1))):
            for turn in range(many):
                rule = wheel(many, turn)
                for plan in some_plans(rule, other):
                    self.is_right(Looker(rule, other, plan=plan), tuple(range(many)) * 3, 5)
        rule = two_wheels(2, 4)
        for _ in range(10):
            marks = mixed_ring(rule, 0, 4, dice)
            self.is_right(Looker(rule, rule), marks, 1)
            self.is_right(Looker(rule, EDGE), marks, 1)

    def test_wide_spans(self):
        dice = Dice(28)
        for many in (5, 6, 8):
            rule = wide_rule(many)
            looker = Looker(rule, rule)
            self.assertEqual(greatest_span(looker), (many - 1) ** 2 + 1)
            for n in (3, 40, 700):
                marks = tuple(closed(rule, part_walk(rule, 0, n, dice)))
                told = self.is_right(looker, marks, 11)
                self.looks_near(looker, marks, told, n // 2)
            self.is_right(looker, mirror_ring_of(rule, 0, 300, dice), 7)
            self.is_right(looker, tuple(range(many)) * 80 + tuple(range(many - 1)), 11)
            self.is_right(looker, tuple(range(many)) * 80, 11)

    def test_the_longest_rings(self):
        dice = Dice(29)
        for rule, other in ((crowd(3), SLOW), (SIDED, SLOW), (two_wheels(2, 3), two_wheels(2, 3))):
            if judged(rule, other)[0] == "none":
                continue
            walk = part_walk(rule, 0, 2999, dice)
            while (walk[-1], walk[0]) not in rule.steps:
                walk = part_walk(rule, 0, 2999, dice)
            told = self.is_right(Looker(rule, other), tuple(walk), 1000)
            self.assertEqual(len(told), 3000)


class GreatRingsTest(unittest.TestCase):
    def test_rings_of_thirty_figures(self):
        looker = Looker(crowd(3), SLOW)
        far = looker.reach()
        for cycle, knot in (((0, 1), (2, 1)), ((0,), (1, 2)), ((0, 1, 2), (2, 2, 0)), ((0, 0, 1), (2,))):
            small = ((4 * far // len(cycle), cycle), (1, knot))
            great = ((10 ** 29, cycle), (1, knot))
            n, many = len(cycle) * small[0][0] + len(knot), len(cycle) * 10 ** 29 + len(knot)
            told = looker.told_all(small)
            for place in range(-20, 20):
                self.assertEqual(looker.told(great, place), told[place % n])
                self.assertEqual(looker.told(great, place - many), told[place % n])
                self.assertEqual(looker.told(great, place + 7 * many), told[place % n])
            midst = [looker.told(great, many // 2 + at) for at in range(10)]
            self.assertTrue(all(pair in SLOW.steps for pair in zip(midst, midst[1:])))

    def test_each_place_on_the_way_from_a_knot_to_a_stretch(self):
        # Of the next knot on the other side nothing can be seen from there.
        for other in (SLOW, crowd(2), two_wheels(1, 3)):
            looker = Looker(crowd(3), other)
            wide = greatest_span(looker)
            far = looker.reach()
            for cycle, knot in (((0,), (1,)), ((0, 1, 2), (2, 2, 0)), ((0, 0, 1), (2,))):
                small = ((3 * far // len(cycle), cycle), (1, knot))
                n = places(small)
                told = looker.told_all(small)
                for place in range(-wide * (doublings(wide) + 4), wide * (doublings(wide) + 4)):
                    self.assertEqual(looker.told(((10 ** 29, cycle), (1, knot)), place), told[place % n])

    def test_told_is_near_of_the_marks_around(self):
        looker = Looker(crowd(3), SLOW)
        ring = ((10 ** 29, (0, 1)), (3, (2, 1, 1)), (10 ** 28, (2,)))
        for place in (0, -1, 5, 10 ** 29, -10 ** 29, 2 * 10 ** 29 + 3, 2 * 10 ** 29 + 200):
            self.assertEqual(looker.told(ring, place), looker.near(around(ring, place, looker.reach())))

    def test_by_other_runs(self):
        looker = Looker(crowd(3), SLOW)
        marks = (0, 1) * 30 + (2,) * 20 + (0, 2, 1)
        told = looker.told_all(((1, marks),))
        self.assertEqual(looker.told_all(((30, (0, 1)), (20, (2,)), (1, (0, 2, 1)))), told)
        self.assertEqual(looker.told_all(((15, (0, 1, 0, 1)), (4, (2,) * 5), (1, (0,)), (1, (2, 1)))), told)
        for place in range(-5, 90, 9):
            self.assertEqual(looker.told(((30, (0, 1)), (20, (2,)), (1, (0, 2, 1))), place), told[place % len(told)])

    def test_places_below_zero_and_far_on(self):
        looker = Looker(crowd(3), SLOW)
        marks = (0, 1, 1, 2, 0, 2, 2)
        told = looker.told_all(((1, marks),))
        for place in (-1, -7, -8, 7, 10 ** 29, -10 ** 29, 10 ** 30 - 1):
            self.assertEqual(looker.told(((1, marks),), place), told[place % 7])


class ReachTest(unittest.TestCase):
    def test_reach(self):
        for rule, other in looking_pairs(fitting_rules() + [wide_rule(8)]):
            looker = Looker(rule, other)
            wide = greatest_span(looker)
            self.assertIs(type(looker.reach()), int)
            self.assertGreaterEqual(looker.reach(), 1)
            self.assertLessEqual(looker.reach(), 40 * wide * (doublings(wide) + 2))

    def test_no_part_no_reach(self):
        for rule in (NONE, Rule((1, 0), ((0, 1),))):
            for other in (NONE, EDGE, SIDED, wheel(8, 1)):
                looker = Looker(rule, other)
                self.assertEqual((looker.reach(), looker.plan), (0, ()))
                for ring in (((1, (0,)),), ((2, (0, 1)),), ()):
                    with self.assertRaises(NoRing):
                        looker.told_all(ring)

    def test_marks_beyond_the_reach_change_nothing(self):
        dice = Dice(30)
        for other in (crowd(2), SLOW):
            looker = Looker(crowd(3), other)
            far = looker.reach()
            near = tuple(dice.below(3) for _ in range(2 * far + 1))
            told = {looker.told(((1, near + (mark,) * mark + (1, mark)),), far) for mark in range(3)}
            self.assertEqual(told, {looker.near(near)})


class PlansTest(unittest.TestCase):
    def test_values(self):
        for rule, other in looking_pairs(fitting_rules())[::5]:
            looker = Looker(rule, other)
            self.assertEqual((looker.rule, looker.other), (rule, other))
            self.assertEqual(looker.plan, judged(rule, other)[1])
            self.assertEqual(kind_of(looker.plan), ((int, int),) * len(parts(rule)))

    def test_each_plan_that_is_let_by(self):
        dice = Dice(31)
        tried = 0
        for rule, other in looking_pairs(fitting_rules())[::3]:
            for plan in some_plans(rule, other)[-4:]:
                looker = Looker(rule, other, plan=plan)
                self.assertEqual(looker.plan, plan)
                number = dice.below(len(parts(rule)))
                marks = mixed_ring(rule, number, 2, dice)
                told = looker.told_all(((1, marks),))
                faults(self, rule, other, plan, number, marks, told)
                back = looker.told_all(mirrored(rule, ((1, marks),)))
                self.assertEqual(back, read_back(other, told))
                tried += 1
        self.assertGreater(tried, 200)

    def test_lookers_of_the_same_rules_and_plan_tell_the_same(self):
        dice = Dice(32)
        for rule, other in looking_pairs(fitting_rules())[::9]:
            one = Looker(rule, other)
            two = Looker(Rule(rule.mirrors, rule.steps), Rule(other.mirrors, other.steps), plan=one.plan)
            marks = mixed_ring(rule, 0, 3, dice)
            self.assertEqual(one.told_all(((1, marks),)), two.told_all(((1, marks),)))
            self.assertEqual(one.told_all(((1, marks),)), one.told_all(((1, marks),)))
            self.assertEqual(one.reach(), two.reach())

    def test_no_looker(self):
        for rule, other in ((EDGE, NONE), (crowd(2), EDGE), (EDGE, SIDED), (SLOW, SIDED), (wheel(2, 0), wheel(2, 1))):
            self.assertEqual(judged(rule, other)[0], "none")
            with self.assertRaises(NoLooker) as caught:
                Looker(rule, other)
            self.assertIs(type(caught.exception), NoLooker)
            with self.assertRaises(NoLooker):
                Looker(rule, other, plan=None)

    def test_no_plan_of_things_of_any_kind(self):
        for rule, other in ((EDGE, EDGE), (crowd(2), EDGE), (SIDED, SIDED), (NONE, EDGE)):
            for thing in oddities():
                if thing is None or (type(thing) is tuple and thing == () and rule is NONE):
                    continue
                with self.assertRaises(NoPlan) as caught:
                    Looker(rule, other, plan=thing)
                self.assertIs(type(caught.exception), NoPlan)

    def test_no_plan_of_what_is_nearly_one(self):
        for thing in (
            ((0, 1),), ((0, 2),), ((0, -1),), ((1, 0),), ((-1, 0),), [(0, 0)], ([0, 0],), ((0, 0), (0, 0)), ((0,),),
            ((0, 0, 0),), ((False, 0),), ((0, False),), (("0", 0),), ((0, None),), (0, 0), ((Strange(), 0),),
            ((0, Strange()),), ((nested(tuple, 20), 0),), 0, False, "", "0/0",
        ):
            with self.assertRaises(NoPlan):
                Looker(crowd(2), crowd(1), plan=thing)
        Looker(crowd(2), crowd(1), plan=((0, 0),))

    def test_a_mirror_part_must_have_the_mirror_pair(self):
        rule = one_way_rule(2, ((0, 1), (1, 0)))
        for plan in itertools.product(itertools.product(range(2), range(2)), repeat=2):
            if is_plain_plan(rule, rule, plan):
                told = Looker(rule, rule, plan=plan).told_all(((3, (0, 1)),))
                self.assertTrue(is_ring(rule, ((1, told),)))
            else:
                with self.assertRaises(NoPlan):
                    Looker(rule, rule, plan=plan)

    def test_plan_by_its_name_alone(self):
        with self.assertRaises(TypeError):
            Looker(EDGE, EDGE, ((0, 0),))
        looker = Looker(plan=((0, 1),), other=EDGE, rule=EDGE)
        self.assertEqual(looker.plan, ((0, 1),))
        self.assertEqual(looker.told_all(((2, (0, 1)),)), (1, 0, 1, 0))


class RefusalsTest(unittest.TestCase):
    def test_no_ring_of_anything(self):
        looker = Looker(crowd(3), SLOW)
        for thing in oddities() + [((1, (3,)),), ((0, (1,)),), ((1, ()),), [(1, (0,))], ((True, (0,)),), ((1, [0]),)]:
            for ask in (lambda: looker.told(thing, 0), lambda: looker.told_all(thing)):
                with self.assertRaises(NoRing) as caught:
                    ask()
                self.assertIs(type(caught.exception), NoRing)

    def test_no_ring_of_the_rule(self):
        looker = Looker(EDGE, EDGE)
        for ring in (((1, (0,)),), ((1, (0, 0, 1)),), ((2, (0, 1)), (1, (1, 0))), ((10 ** 29, (0, 1, 1)),)):
            with self.assertRaises(NoRing):
                looker.told(ring, 5)
            with self.assertRaises(NoRing):
                looker.told_all(ring)

    def test_too_many_behind_no_ring(self):
        looker = Looker(EDGE, EDGE)
        self.assertEqual(len(looker.told_all(((1500, (0, 1)),))), 3000)
        for ring in (((1501, (0, 1)),), ((10 ** 29, (0, 1)),)):
            with self.assertRaises(TooMany) as caught:
                looker.told_all(ring)
            self.assertIs(type(caught.exception), TooMany)
            self.assertIn(looker.told(ring, 17), (0, 1))
        with self.assertRaises(NoRing):
            looker.told_all(((3001, (0,)),))
        looker = Looker(crowd(1), SLOW)
        self.assertEqual(len(looker.told_all(((2999, (0,)), (1, (0,))))), 3000)
        with self.assertRaises(TooMany):
            looker.told_all(((3000, (0,)), (1, (0,))))

    def test_arguments_by_name_and_unchanged(self):
        looker = Looker(crowd(3), SLOW)
        ring = ((3, (0, 1)), (1, (2,)))
        kept = copy.deepcopy(ring)
        self.assertEqual(looker.told(place=3, ring=ring), looker.told(ring, 3))
        self.assertEqual(looker.told_all(ring=ring), looker.told_all(ring))
        seen = around(ring, 3, looker.reach())
        self.assertEqual(looker.near(marks=seen), looker.told(ring, 3))
        self.assertEqual(ring, kept)
        self.assertEqual((looker.rule, looker.other), (crowd(3), plain_rule(4, ((0, 1), (1, 2), (2, 3), (3, 3)))))
