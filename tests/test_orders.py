"""Point 20: rules by rules; and point 3 (g)."""

import itertools
import unittest

from ringvouch.errors import TooMany
from ringvouch.judging import judged
from ringvouch.lookers import Looker
from ringvouch.looks import shows_paper, shows_plan
from ringvouch.classing import period
from ringvouch.orders import as_good, both, either, leads, plan_behind
from ringvouch.parts import parts
from ringvouch.rules import Rule, one_way_rule, plain_rule
from tests.samples import (
    Dice, chain, crowd, faults, fitting_rules, gaps_alone, is_plain_plan, kind_of, mixed_ring, no_axes, places_alone,
    plain_pairs, portraits, small_rules, two_wheels, wheel,
)

EDGE = plain_rule(2, ((0, 1),))
NONE = plain_rule(3, ())
SIDED = one_way_rule(1, ((0, 0),))


def few_rules():
    return [
        EDGE, NONE, SIDED, crowd(1), crowd(2), chain(), gaps_alone(), places_alone(), no_axes(), wheel(3, 1),
        wheel(4, 0), wheel(4, 1), wheel(2, 1), two_wheels(2, 3), two_wheels(1, 3), plain_rule(2, ((0, 0), (1, 1))),
    ]


def some_plans(rule, other):
    able = [plain_pairs(c, portraits(other))[:4] for c in portraits(rule)]
    return [plan for plan in itertools.product(*able) if is_plain_plan(rule, other, plan)]


class LeadsTest(unittest.TestCase):
    def test_as_judged_tells(self):
        rules = fitting_rules()
        for at, rule in enumerate(rules):
            for other in rules[at % 3::3]:
                word, thing = judged(rule, other)
                self.assertIs(leads(rule, other), word == "plan")
                self.assertIs(as_good(rule, other), word == "plan" and judged(other, rule)[0] == "plan")
                if word == "none":
                    self.assertIs(shows_paper(rule, other, thing), True)

    def test_plain_ones(self):
        self.assertIs(leads(EDGE, crowd(2)), True)
        self.assertIs(leads(crowd(2), EDGE), False)
        self.assertIs(as_good(EDGE, crowd(2)), False)
        self.assertIs(as_good(crowd(2), EDGE), False)
        self.assertIs(as_good(crowd(2), crowd(7)), True)
        self.assertIs(leads(NONE, NONE), True)
        self.assertIs(leads(NONE, EDGE), True)
        self.assertIs(leads(EDGE, NONE), False)

    def test_what_leads_to_what_leads_on_leads_there(self):
        rules = few_rules() + small_rules()[::40]
        ways = {(a, b): leads(rules[a], rules[b]) for a, b in itertools.product(range(len(rules)), repeat=2)}
        for a, b, c in itertools.product(range(len(rules)), repeat=3):
            if ways[a, b] and ways[b, c]:
                self.assertTrue(ways[a, c])
        self.assertTrue(all(ways[a, a] for a in range(len(rules))))

    def test_by_names(self):
        self.assertIs(leads(other=crowd(2), rule=EDGE), True)
        self.assertIs(as_good(other=crowd(2), one=EDGE), False)


class EitherTest(unittest.TestCase):
    def test_marks_mirrors_and_steps(self):
        for one, other in itertools.product(few_rules(), repeat=2):
            many = one.marks()
            if many + other.marks() > 8:
                continue
            rule = either(one, other)
            self.assertIsInstance(rule, Rule)
            self.assertEqual(rule.marks(), many + other.marks())
            for mark in range(rule.marks()):
                wanted = one.mirror(mark) if mark < many else many + other.mirror(mark - many)
                self.assertEqual(rule.mirror(mark), wanted)
            for a, b in itertools.product(range(rule.marks()), repeat=2):
                wanted = (a, b) in one.steps or (a - many, b - many) in other.steps
                self.assertIs((a, b) in rule.steps, wanted)
            self.assertEqual(rule, Rule(rule.mirrors, tuple(sorted(rule.steps))))

    def test_in_this_order(self):
        rule = either(EDGE, SIDED)
        self.assertEqual((rule.mirrors, rule.steps), ((0, 1, 3, 2), ((0, 1), (1, 0), (2, 2), (3, 3))))
        rule = either(SIDED, EDGE)
        self.assertEqual((rule.mirrors, rule.steps), ((1, 0, 2, 3), ((0, 0), (1, 1), (2, 3), (3, 2))))

    def test_leads_as_its_parts_do(self):
        rules = [rule for rule in few_rules() if rule.marks() <= 4]
        for one, other, third in itertools.product(rules[::2], rules[1::2], few_rules()[::2]):
            rule = either(one, other)
            self.assertTrue(leads(one, rule) and leads(other, rule))
            self.assertIs(leads(rule, third), leads(one, third) and leads(other, third))

    def test_too_many(self):
        self.assertEqual(either(crowd(3), crowd(5)).marks(), 8)
        for one, other in ((crowd(4), crowd(5)), (crowd(8), crowd(1)), (crowd(1), crowd(8)), (NONE, crowd(6))):
            with self.assertRaises(TooMany) as caught:
                either(one, other)
            self.assertIs(type(caught.exception), TooMany)

    def test_by_names_and_unchanged(self):
        one, other = plain_rule(2, ((0, 1),)), one_way_rule(1, ((0, 0),))
        self.assertEqual(either(other=other, one=one), either(one, other))
        self.assertEqual((one, other), (EDGE, SIDED))


class BothTest(unittest.TestCase):
    def test_marks_mirrors_and_steps(self):
        for one, other in itertools.product(few_rules(), repeat=2):
            many = other.marks()
            if one.marks() * many > 8:
                continue
            rule = both(one, other)
            self.assertEqual(rule.marks(), one.marks() * many)
            for mark in range(rule.marks()):
                a, b = divmod(mark, many)
                self.assertEqual(rule.mirror(mark), one.mirror(a) * many + other.mirror(b))
            for mark, behind in itertools.product(range(rule.marks()), repeat=2):
                (a, b), (c, d) = divmod(mark, many), divmod(behind, many)
                self.assertIs((mark, behind) in rule.steps, (a, c) in one.steps and (b, d) in other.steps)
            self.assertEqual(rule, Rule(rule.mirrors, tuple(sorted(rule.steps))))

    def test_in_this_order(self):
        rule = both(wheel(3, 1), SIDED)
        self.assertEqual(rule.mirrors, (3, 2, 1, 0, 5, 4))
        self.assertEqual(rule.steps, ((0, 2), (1, 3), (2, 4), (3, 5), (4, 0), (5, 1)))

    def test_leads_to_each(self):
        for one, other in itertools.product(few_rules(), repeat=2):
            if one.marks() * other.marks() <= 8:
                rule = both(one, other)
                self.assertTrue(leads(rule, one))
                self.assertTrue(leads(rule, other))

    def test_too_many(self):
        self.assertEqual(both(crowd(4), crowd(2)).marks(), 8)
        self.assertEqual(both(crowd(1), crowd(8)).marks(), 8)
        for one, other in ((crowd(3), crowd(3)), (crowd(8), crowd(2)), (crowd(2), crowd(8)), (NONE, NONE)):
            with self.assertRaises(TooMany) as caught:
                both(one, other)
            self.assertIs(type(caught.exception), TooMany)

    def test_by_names(self):
        self.assertEqual(both(other=SIDED, one=EDGE), both(EDGE, SIDED))
        self.assertNotEqual(both(wheel(3, 1), SIDED), both(SIDED, wheel(3, 1)))


class PlanBehindTest(unittest.TestCase):
    def test_a_plan_by_parts_and_shifts(self):
        rules = few_rules() + [wheel(8, 2), wheel(8, 1), wheel(6, 1), one_way_rule(4, ((0, 1), (1, 2), (2, 3), (3, 0)))]
        tried, shifted = 0, 0
        for rule, middle, other in itertools.product(rules, repeat=3):
            if not leads(rule, middle) or not leads(middle, other):
                continue
            for first in some_plans(rule, middle)[-2:]:
                for second in some_plans(middle, other)[-2:]:
                    plan = plan_behind(rule, middle, other, first, second)
                    self.assertTrue(shows_plan(rule, other, plan))
                    self.assertEqual(kind_of(plan), ((int, int),) * len(parts(rule)))
                    for (its, shift), pair in zip(first, plan):
                        its_own, its_shift = second[its]
                        wanted = (its_own, (shift + its_shift) % period(other, its_own))
                        self.assertEqual(pair, wanted)
                        shifted += pair[1] > 0
                    tried += 1
        self.assertGreater(tried, 500)
        self.assertGreater(shifted, 50)

    def test_a_looker_by_it_is_right(self):
        dice = Dice(51)
        rule, middle, other = wheel(8, 2), wheel(4, 2), wheel(2, 0)
        for first in some_plans(rule, middle):
            for second in some_plans(middle, other):
                plan = plan_behind(rule, middle, other, first, second)
                marks = mixed_ring(rule, 0, 2, dice)
                told = Looker(rule, other, plan=plan).told_all(((1, marks),))
                faults(self, rule, other, plan, 0, marks, told)

    def test_by_names(self):
        wanted = plan_behind(EDGE, EDGE, crowd(2), ((0, 1),), ((0, 0),))
        self.assertEqual(wanted, ((0, 0),))
        self.assertEqual(
            plan_behind(second=((0, 0),), first=((0, 1),), other=crowd(2), middle=EDGE, rule=EDGE), wanted)
        self.assertEqual(plan_behind(EDGE, EDGE, EDGE, ((0, 1),), ((0, 1),)), ((0, 0),))
        self.assertEqual(plan_behind(EDGE, EDGE, EDGE, ((0, 1),), ((0, 0),)), ((0, 1),))
        self.assertEqual(plan_behind(NONE, EDGE, EDGE, (), ((0, 1),)), ())
