"""Point 13: judging; and point 14, as far as it speaks of told plans and papers."""

import itertools
import unittest

from ringvouch.judging import judged
from ringvouch.looks import shows_paper, shows_plan
from ringvouch.parts import parts
from ringvouch.rules import Rule, one_way_rule, plain_rule
from tests.samples import (
    chain, crowd, far_mirror_rules, far_rules, fitting_rules, gaps_alone, is_plain_plan, is_plain_reason, kind_of,
    no_axes, places_alone, plain_pairs, portraits, small_rules, two_wheels, wheel,
)

EDGE = plain_rule(2, ((0, 1),))
NONE = plain_rule(3, ())
SIDED = one_way_rule(1, ((0, 0),))


def lengths(thing):
    """How many marks each tuple of marks in a paper has."""
    if isinstance(thing, tuple) and thing and all(isinstance(mark, int) for mark in thing):
        return [len(thing)]
    return [many for inner in thing for many in lengths(inner)] if isinstance(thing, tuple) else []


class BesideAPlainSearchTest(unittest.TestCase):
    def is_right(self, rule, other):
        found = judged(rule, other)
        self.assertEqual(kind_of(found)[0], str)
        self.assertEqual(len(found), 2)
        word, thing = found
        ours, theirs = portraits(rule), portraits(other)
        unfit = [part for part, c in enumerate(ours) if not plain_pairs(c, theirs)]
        if unfit:
            self.assertEqual(word, "none")
            self.is_right_paper(rule, other, thing)
            self.assertIn(thing[0], unfit)
        else:
            self.assertEqual(word, "plan")
            self.assertEqual(kind_of(thing), ((int, int),) * len(ours))
            self.assertTrue(is_plain_plan(rule, other, thing))
        self.assertIs(shows_plan(rule, other, thing), word == "plan")
        self.assertIs(shows_paper(rule, other, thing), word == "none")
        self.assertEqual(judged(rule, other), found)

    def is_right_paper(self, rule, other, paper):
        part, reasons = paper
        theirs = portraits(other)
        self.assertEqual(len(reasons), len(theirs))
        self.assertLessEqual(max(lengths(reasons), default=0), 300)
        for its, reason in enumerate(reasons):
            self.assertTrue(is_plain_reason(rule, part, other, its, reason), reason)
            lacking = portraits(rule)[part].sizes - theirs[its].sizes
            if reason[0] == "size":
                self.assertEqual(len(reason[1]), min(lacking))

    def test_small_rules(self):
        rules = small_rules()[::12]
        for rule, other in itertools.product(rules, rules):
            self.is_right(rule, other)

    def test_many_rules(self):
        rules = fitting_rules()
        for at, rule in enumerate(rules):
            for other in rules[at % 2::2]:
                self.is_right(rule, other)


class PlansTest(unittest.TestCase):
    def test_the_empty_plan(self):
        for other in (NONE, EDGE, SIDED, chain(), wheel(8, 3)):
            self.assertEqual(judged(NONE, other), ("plan", ()))
        self.assertEqual(judged(Rule((1, 0), ((0, 1),)), NONE), ("plan", ()))

    def test_each_rule_leads_to_itself(self):
        for rule in fitting_rules() + small_rules()[::5]:
            self.assertEqual(judged(rule, rule)[0], "plan")

    def test_the_only_plan_there_is(self):
        self.assertEqual(judged(EDGE, crowd(1)), ("plan", ((0, 0),)))
        self.assertEqual(judged(wheel(3, 1), wheel(3, 0)), ("plan", ((0, 1),)))
        rule = plain_rule(4, ((0, 1), (2, 3)))
        self.assertEqual(judged(rule, plain_rule(3, ((0, 0), (1, 2))))[0], "plan")
        self.assertEqual(judged(plain_rule(3, ((0, 0), (1, 1), (2, 2))), plain_rule(3, ((0, 1), (2, 2)))),
                         ("plan", ((1, 0), (1, 0), (1, 0))))

    def test_the_mirror_part_has_the_pair_that_it_must(self):
        # The mirror part's classes are counted from another mark, so its shift is another one.
        rule = Rule((5, 3, 4, 1, 2, 0), ((0, 1), (1, 2), (2, 0), (3, 5), (4, 3), (5, 4)))
        for turn in range(3):
            word, plan = judged(rule, wheel(3, turn))
            self.assertEqual(word, "plan")
            self.assertEqual([its for its, shift in plan], [0, 0])
            self.assertEqual((plan[0][1] + plan[1][1]) % 3, (turn - 1) % 3)
        word, plan = judged(rule, rule)
        self.assertEqual(sorted(its for its, shift in plan), [0, 1])
        self.assertEqual((plan[0][1] + plan[1][1]) % 3, 0)

    def test_parts_that_are_not_their_own_mirrors(self):
        self.assertEqual(judged(SIDED, crowd(1)), ("plan", ((0, 0), (0, 0))))
        self.assertIn(judged(SIDED, SIDED), (("plan", ((0, 0), (1, 0))), ("plan", ((1, 0), (0, 0)))))
        self.assertEqual(judged(chain(), SIDED)[0], "plan")


class PapersTest(unittest.TestCase):
    def test_no_reason_where_the_other_rule_has_no_part(self):
        self.assertEqual(judged(EDGE, NONE), ("none", (0, ())))
        word, paper = judged(chain(), NONE)
        self.assertEqual((word, paper[1]), ("none", ()))
        self.assertIn(paper[0], range(4))

    def test_each_reason(self):
        self.assertEqual(judged(crowd(1), EDGE), ("none", (0, (("size", (0,)),))))
        self.assertEqual(judged(crowd(1), SIDED), ("none", (0, (("side",), ("side",)))))
        word, paper = judged(wheel(4, 1), wheel(4, 2))
        self.assertEqual((word, paper[0], paper[1][0][0]), ("none", 0, "way"))
        for rule, other in ((crowd(1), gaps_alone()), (crowd(1), places_alone()), (places_alone(), gaps_alone())):
            word, paper = judged(rule, other)
            self.assertEqual((word, paper[0], paper[1][0][0]), ("none", 0, "axes"))

    def test_where_there_is_no_mirror_ring(self):
        word, paper = judged(no_axes(), wheel(2, 1))
        self.assertEqual((word, paper[0], paper[1][0][0]), ("none", 0, "way"))
        self.assertEqual(judged(no_axes(), SIDED), ("none", (0, (("side",), ("side",)))))
        self.assertEqual(judged(no_axes(), wheel(2, 0))[0], "plan")

    def test_a_way_may_have_no_step(self):
        word, (part, reasons) = judged(wheel(2, 0), wheel(2, 1))
        self.assertEqual((word, part), ("none", 0))
        self.assertTrue(is_plain_reason(wheel(2, 0), 0, wheel(2, 1), 0, reasons[0]))

    def test_several_reasons_in_the_order_of_the_parts(self):
        other = Rule((0, 1, 3, 2, 5, 4), ((0, 1), (1, 0), (2, 2), (3, 3), (4, 4), (4, 5), (5, 4), (5, 5)))
        self.assertEqual(parts(other), ((0, 1), (2,), (3,), (4, 5)))
        word, (part, reasons) = judged(crowd(1), other)
        self.assertEqual((word, part), ("none", 0))
        self.assertEqual([reason[0] for reason in reasons], ["size", "side", "side", "axes"])
        self.assertTrue(shows_paper(crowd(1), other, (part, reasons)))

    def test_the_part_that_fits_none(self):
        rule = plain_rule(5, ((0, 1), (2, 3), (4, 4)))
        self.assertEqual(judged(rule, EDGE), ("none", (2, (("size", (4,)),))))

    def test_far_ones(self):
        one, other = far_rules()
        word, (part, (reason,)) = judged(one, other)
        self.assertEqual((word, part, reason[0], len(reason[1])), ("none", 0, "size", 7))
        one, other = far_mirror_rules()
        self.assertEqual(judged(one, other)[0], "none")

    def test_an_axes_reason_for_each_shift(self):
        rule = Rule((1, 0, 3, 2), ((0, 1), (0, 3), (1, 2), (2, 1), (2, 3), (3, 0)))
        word, (part, reasons) = judged(wheel(2, 1), rule)
        self.assertEqual((word, part, reasons[0][0], len(reasons[0][1])), ("none", 0, "axes", 2))
        self.assertTrue(shows_paper(wheel(2, 1), rule, (part, reasons)))


class WholeTest(unittest.TestCase):
    def test_where_marks_can_be_told_one_by_one_there_is_a_plan(self):
        rules = small_rules()[::12] + [EDGE, SIDED, wheel(4, 0), two_wheels(2, 3)]
        for rule, other in itertools.product(rules, rules):
            if one_by_one(rule, other):
                self.assertEqual(judged(rule, other)[0], "plan")

    def test_what_leads_on_leads_to_the_third(self):
        rules = fitting_rules()[::3]
        leads = {
            (a, b) for a, b in itertools.product(range(len(rules)), repeat=2)
            if judged(rules[a], rules[b])[0] == "plan"
        }
        for (a, b), (c, d) in itertools.product(leads, leads):
            if b == c:
                self.assertIn((a, d), leads)

    def test_arguments_by_name_and_nothing_changed(self):
        rule, other = wheel(6, 1), two_wheels(3, 6)
        self.assertEqual(judged(other=other, rule=rule), judged(rule, other))
        self.assertEqual((rule, other), (wheel(6, 1), two_wheels(3, 6)))


def one_by_one(rule, other):
    """Whether marks of parts can be told by themselves alone, so that steps and mirrors are kept."""
    inside = [mark for part in parts(rule) for mark in part]
    part_of = {mark: number for number, part in enumerate(parts(rule)) for mark in part}
    steps = [(a, b) for a, b in rule.steps if a in part_of and b in part_of and part_of[a] == part_of[b]]
    for told in itertools.product(range(other.marks()), repeat=len(inside)):
        of = dict(zip(inside, told))
        if all((of[a], of[b]) in other.steps for a, b in steps):
            if all(of[rule.mirrors[mark]] == other.mirrors[of[mark]] for mark in inside):
                return True
    return False
