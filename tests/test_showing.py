"""Point 22: what is shown."""

import copy
import unittest

from ringvouch.judging import judged
from ringvouch.reading import read_plan, read_ring, read_rule
from ringvouch.rules import Rule, one_way_rule, plain_rule
from ringvouch.showing import show_plan, show_reason, show_ring, show_rule
from tests.samples import all_rules, chain, crowd, fitting_rules, great_rules, kind_of, part_rules, small_rules, wheel

GREAT = 10 ** 30 - 1


class ShowTest(unittest.TestCase):
    def test_rules(self):
        self.assertEqual(show_rule(plain_rule(1, ())), "marks 1")
        self.assertEqual(show_rule(plain_rule(8, ())), "marks 8")
        self.assertEqual(show_rule(plain_rule(2, ((0, 1),))), "marks 2\nstep 0 1\nstep 1 0")
        self.assertEqual(
            show_rule(one_way_rule(2, ((0, 1), (1, 0)))),
            "marks 4\nmirror 0 2\nmirror 1 3\nstep 0 1\nstep 1 0\nstep 2 3\nstep 3 2",
        )
        self.assertEqual(
            show_rule(Rule((3, 1, 2, 0), ((0, 1), (1, 3), (2, 2)))),
            "marks 4\nmirror 0 3\nstep 0 1\nstep 1 3\nstep 2 2",
        )

    def test_rings(self):
        self.assertEqual(show_ring(((3, (0, 1)), (1, (2,)))), "3*0.1 1*2")
        self.assertEqual(show_ring(((1, (7,)),)), "1*7")
        self.assertEqual(show_ring(((GREAT, (0, 0, 5)),)), "9" * 30 + "*0.0.5")

    def test_plans(self):
        self.assertEqual(show_plan(((0, 1), (2, 0))), "0/1 2/0")
        self.assertEqual(show_plan(()), "-")
        self.assertEqual(show_plan(((GREAT, 0), (0, GREAT), (10, 10))), f"{GREAT}/0 0/{GREAT} 10/10")

    def test_reasons(self):
        self.assertEqual(show_reason(("size", (0, 1, 0))), "size 0.1.0")
        self.assertEqual(show_reason(("size", ())), "size -")
        self.assertEqual(show_reason(("side",)), "side")
        self.assertEqual(show_reason(("way", (3,))), "way 3")
        self.assertEqual(show_reason(("axes", (((0, 1), 3), ((2,), 0)))), "axes 0.1/3 2/0")
        self.assertEqual(show_reason(("axes", (((0,), GREAT),))), f"axes 0/{GREAT}")
        self.assertEqual(show_reason(("axes", (((), 0), ((GREAT,), 10)))), f"axes -/0 {GREAT}/10")
        self.assertEqual(show_reason(("axes", ())), "axes")

    def test_told_reasons_of_each_sort(self):
        words = set()
        rules = fitting_rules()
        for at, rule in enumerate(rules):
            for other in rules[at % 5::5]:
                word, found = judged(rule, other)
                for reason in found[1] if word == "none" else ():
                    shown = show_reason(reason)
                    self.assertIs(type(shown), str)
                    self.assertEqual(shown.split(" ")[0], reason[0])
                    words.add(reason[0])
        self.assertEqual(words, {"size", "side", "way", "axes"})

    def test_by_names_and_unchanged(self):
        ring, plan, reason = ((3, (0, 1)),), ((0, 1),), ("size", (0,))
        kept = copy.deepcopy((ring, plan, reason))
        self.assertEqual(show_rule(rule=crowd(1)), "marks 1\nstep 0 0")
        self.assertEqual(show_ring(ring=ring), "3*0.1")
        self.assertEqual(show_plan(plan=plan), "0/1")
        self.assertEqual(show_reason(reason=reason), "size 0")
        self.assertEqual((ring, plan, reason), kept)


class ThereAndBackTest(unittest.TestCase):
    def test_rules(self):
        for rule in small_rules() + all_rules(2) + part_rules() + great_rules() + [chain(), crowd(8), wheel(8, 3)]:
            text = show_rule(rule)
            found = read_rule(text)
            self.assertEqual(found, rule)
            self.assertEqual((kind_of(found.mirrors), kind_of(found.steps)), (kind_of(rule.mirrors), kind_of(rule.steps)))
            self.assertEqual(show_rule(found), text)

    def test_rings(self):
        for ring in (
            ((1, (0,)),), ((10, (0, 1, 7)), (1, (2,))), ((GREAT, (3,) * 50),) * 60, ((1, (1, 0) * 1500),),
            tuple((times, (times % 8,)) for times in range(1, 60)),
        ):
            text = show_ring(ring)
            self.assertEqual(read_ring(text), ring)
            self.assertEqual(kind_of(read_ring(text)), kind_of(ring))
            self.assertEqual(show_ring(read_ring(text)), text)

    def test_plans(self):
        for plan in ((), ((0, 0),), ((0, 1), (2, 0)), ((GREAT, GREAT),) * 8, ((10, 100),)):
            text = show_plan(plan)
            self.assertEqual(read_plan(text), plan)
            self.assertEqual(kind_of(read_plan(text)), kind_of(plan))
            self.assertEqual(show_plan(read_plan(text)), text)
