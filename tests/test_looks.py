"""Point 14: looking at plans and papers."""

import copy
import itertools
import unittest

from ringvouch.classing import period
from ringvouch.judging import judged
from ringvouch.looks import shows_paper, shows_plan
from ringvouch.parts import parts
from ringvouch.rules import Rule, one_way_rule, plain_rule
from tests.samples import (
    Strange, all_rings, all_walks, chain, crowd, far_mirror_rules, far_rules, fitting_rules, gaps_alone, is_plain_plan,
    is_plain_reason, nested, oddities, places_alone, plain_axes, scattered_rules, small_rules, two_wheels, wheel,
)

GREAT = 10 ** 29
EDGE = plain_rule(2, ((0, 1),))
NONE = plain_rule(3, ())
LOOP = crowd(1)
SIDED = one_way_rule(1, ((0, 0),))
TURNED = Rule((5, 3, 4, 1, 2, 0), ((0, 1), (1, 2), (2, 0), (3, 5), (4, 3), (5, 4)))
GAPS_OF_TWO = Rule((1, 0, 3, 2), ((0, 1), (0, 3), (1, 2), (2, 1), (2, 3), (3, 0)))


def few_rules():
    """Rules of few marks, unlike one another."""
    return small_rules()[::17] + [EDGE, NONE, LOOP, SIDED, wheel(2, 1), wheel(3, 1), wheel(4, 1), gaps_alone()]


def candidates(rule, other):
    """All tuples of as many pairs as a plan has, the shifts to one beyond the last one."""
    pairs = [(its, shift) for its in range(len(parts(other))) for shift in range(period(other, its) + 1)]
    return list(itertools.product(pairs, repeat=len(parts(rule))))


def like(thing, kind):
    """The same with lists or other kinds in the place of the tuples, at each place by itself."""
    if not isinstance(thing, tuple):
        return []
    found = [kind(thing)]
    for at, inner in enumerate(thing):
        found += [thing[:at] + (other,) + thing[at + 1:] for other in like(inner, kind)]
    return found


def numbers_otherwise(thing, change):
    """The same with one whole number changed, each by itself."""
    if isinstance(thing, int):
        return [change(thing)]
    if not isinstance(thing, tuple):
        return []
    found = []
    for at, inner in enumerate(thing):
        found += [thing[:at] + (other,) + thing[at + 1:] for other in numbers_otherwise(inner, change)]
    return found


def wrong_kinds(thing):
    """The same with one thing in it of another kind."""
    found = like(thing, list) + like(thing, str) + like(thing, lambda inner: dict(enumerate(inner)))
    for change in (str, lambda k: None, lambda k: (k,), lambda k: [k], lambda k: Strange(), lambda k: complex(k)):
        found += numbers_otherwise(thing, change)
    return found + numbers_otherwise(thing, lambda k: bool(k) if k in (0, 1) else str(k))


class PlansTest(unittest.TestCase):
    def test_every_tuple_of_pairs(self):
        for rule, other in itertools.product(few_rules(), repeat=2):
            tried = candidates(rule, other)
            for plan in tried if len(tried) < 200 else tried[::len(tried) // 200]:
                self.assertIs(shows_plan(rule, other, plan), is_plain_plan(rule, other, plan))

    def test_every_plan_whoever_made_it(self):
        rules = (TURNED, SIDED, wheel(4, 0), wheel(8, 2), plain_rule(4, ((0, 1), (2, 3))))
        others = (TURNED, SIDED, wheel(3, 2), wheel(4, 2), wheel(2, 0), EDGE, LOOP, plain_rule(3, ((0, 1), (2, 2))))
        for rule in rules:
            for other in others:
                found = [plan for plan in candidates(rule, other) if shows_plan(rule, other, plan)]
                wanted = [plan for plan in candidates(rule, other) if is_plain_plan(rule, other, plan)]
                self.assertEqual(found, wanted)
                self.assertIs(len(found) > 0, judged(rule, other)[0] == "plan")

    def test_all_plans_of_some(self):
        self.assertEqual([p for p in candidates(wheel(4, 0), wheel(4, 2)) if shows_plan(wheel(4, 0), wheel(4, 2), p)],
                         [((0, 1),), ((0, 3),)])
        found = [plan for plan in candidates(TURNED, TURNED) if shows_plan(TURNED, TURNED, plan)]
        self.assertEqual(found, [
            ((0, 0), (1, 0)), ((0, 1), (1, 2)), ((0, 2), (1, 1)), ((1, 0), (0, 0)), ((1, 1), (0, 2)), ((1, 2), (0, 1)),
        ])

    def test_the_empty_plan(self):
        for other in (NONE, EDGE, chain()):
            self.assertIs(shows_plan(NONE, other, ()), True)
            self.assertIs(shows_plan(NONE, other, ((0, 0),)), False)
            self.assertIs(shows_plan(NONE, other, []), False)
            self.assertIs(shows_plan(NONE, other, None), False)
        self.assertIs(shows_plan(EDGE, NONE, ()), False)
        self.assertIs(shows_plan(EDGE, NONE, ((0, 0),)), False)

    def test_a_pair_more_or_fewer(self):
        rule = plain_rule(4, ((0, 1), (2, 3)))
        self.assertIs(shows_plan(rule, EDGE, ((0, 0), (0, 1))), True)
        for plan in ((), ((0, 0),), ((0, 0), (0, 1), (0, 0)), ((0, 0), ()), ((0, 0), (0,)), ((0, 0), (0, 1, 0))):
            self.assertIs(shows_plan(rule, EDGE, plan), False)

    def test_a_mirror_part_with_another_pair(self):
        self.assertIs(shows_plan(SIDED, SIDED, ((0, 0), (1, 0))), True)
        self.assertIs(shows_plan(SIDED, SIDED, ((1, 0), (0, 0))), True)
        self.assertIs(shows_plan(SIDED, SIDED, ((0, 0), (0, 0))), False)
        self.assertIs(shows_plan(SIDED, SIDED, ((1, 0), (1, 0))), False)

    def test_shifts_of_the_period_and_more(self):
        for shift in (4, 5, 8, GREAT, 4 * GREAT, 10 ** 200, -1, -4):
            self.assertIs(shows_plan(wheel(4, 0), wheel(4, 0), ((0, shift),)), False)
        for its in (1, 2, -1, GREAT, -GREAT):
            self.assertIs(shows_plan(wheel(4, 0), wheel(4, 0), ((its, 0),)), False)

    def test_truths_are_no_numbers(self):
        rule = plain_rule(3, ((0, 0), (1, 2)))
        self.assertIs(shows_plan(EDGE, rule, ((1, 1),)), True)
        for plan in (((True, 1),), ((1, True),), ((True, True),)):
            self.assertIs(shows_plan(EDGE, rule, plan), False)
        for plan in (((False, 0),), ((0, False),)):
            self.assertIs(shows_plan(LOOP, LOOP, plan), False)

    def test_of_anything(self):
        for rule, other in ((EDGE, LOOP), (SIDED, TURNED), (NONE, LOOP), (chain(), SIDED)):
            for thing in oddities():
                is_empty_plan = isinstance(thing, tuple) and len(thing) == 0 and rule == NONE
                self.assertIs(shows_plan(rule, other, thing), is_empty_plan)
        for thing in oddities():
            is_nought = type(thing) is int and thing == 0
            self.assertIs(shows_plan(EDGE, LOOP, (thing,)), False)
            self.assertIs(shows_plan(EDGE, LOOP, ((thing, 0),)), is_nought)
            self.assertIs(shows_plan(EDGE, LOOP, ((0, thing),)), is_nought)

    def test_of_kinds_otherwise(self):
        for rule, other in ((EDGE, EDGE), (TURNED, wheel(3, 1)), (SIDED, SIDED), (wheel(4, 2), wheel(4, 0))):
            plan = judged(rule, other)[1]
            self.assertIs(shows_plan(rule, other, plan), True)
            for thing in wrong_kinds(plan):
                self.assertIs(shows_plan(rule, other, thing), False)
        for thing in (nested(tuple, 30), (nested(tuple, 29),), ((nested(tuple, 28), 0),), ((0, nested(list, 28)),)):
            self.assertIs(shows_plan(EDGE, LOOP, thing), False)


def reasons_of_form(rule, other, its):
    """Reasons of the right form, true or not, small enough that there are not too many."""
    rings = [ring for n in range(1, 4) for ring in all_rings(rule, n)]
    walks = [walk for n in range(3) for walk in all_walks(rule, n)]
    found = [("side",)]
    found += [("size", marks) for marks in rings + walks + [()]]
    found += [("way", marks) for marks in walks + [(0, 0, 0, 0), ()]]
    axed = [(marks, s) for marks in rings[:40:2] for s in plain_axes(rule, marks)] + [((0,), 0), ((0,), 2)]
    found += [("axes", ())] + [("axes", (pair,)) for pair in axed]
    if period(other, its) % 2 == 0:
        found += [("axes", pairs) for pairs in itertools.product(axed[::4], repeat=2)]
    return found


class PapersTest(unittest.TestCase):
    def test_reasons_beside_the_words(self):
        rules = small_rules()[::29] + [EDGE, LOOP, SIDED, wheel(2, 1), wheel(4, 1), gaps_alone(), places_alone()]
        others = [other for other in rules if len(parts(other)) == 1] + [GAPS_OF_TWO, wheel(4, 2)]
        for rule, other in itertools.product(rules + [GAPS_OF_TWO], others):
            planned = judged(rule, other)[0] == "plan"
            for reason in reasons_of_form(rule, other, 0):
                for part in range(len(parts(rule))):
                    shown = shows_paper(rule, other, (part, (reason,)))
                    self.assertIs(shown, is_plain_reason(rule, part, other, 0, reason))
                    self.assertFalse(planned and shown)

    def test_no_plan_where_there_is_a_paper(self):
        for rule, other in itertools.product(fitting_rules()[::2], fitting_rules()[1::2]):
            word, thing = judged(rule, other)
            if word == "none":
                self.assertTrue(shows_paper(rule, other, thing))
                tried = candidates(rule, other)
                for plan in tried[::len(tried) // 20 + 1]:
                    self.assertFalse(shows_plan(rule, other, plan))

    def test_no_paper_where_there_is_a_plan(self):
        # Reasons that are right beside some other rule are none here.
        others = fitting_rules()[::2]
        for rule in fitting_rules()[::3]:
            papers = [thing for word, thing in [judged(rule, other) for other in others] if word == "none"]
            known = {reason: True for part, reasons in papers for reason in reasons}
            for other in [other for other in others if judged(rule, other)[0] == "plan"]:
                tried = itertools.product(list(known), repeat=len(parts(other)))
                for reasons in itertools.islice(tried, 60):
                    for part in range(len(parts(rule))):
                        self.assertFalse(shows_paper(rule, other, (part, reasons)))

    def test_every_paper_whoever_made_it(self):
        # Rings and walks that are longer than wanted show it as well.
        self.assertIs(shows_paper(LOOP, EDGE, (0, (("size", (0,) * 301),))), True)
        self.assertIs(shows_paper(LOOP, EDGE, (0, (("size", (0,) * 300),))), False)
        self.assertIs(shows_paper(LOOP, EDGE, (0, (("size", (0,) * 2999),))), True)
        for many in (1, 5, 9, 401):
            marks = ((0, 1, 2, 3) * 101)[:many]
            self.assertIs(shows_paper(wheel(4, 0), wheel(4, 1), (0, (("way", marks),))), True)
        self.assertIs(shows_paper(LOOP, gaps_alone(), (0, (("axes", (((0,) * 301, 601),)),))), True)
        self.assertIs(shows_paper(LOOP, gaps_alone(), (0, (("axes", (((0,) * 301, 602),)),))), False)

    def test_no_reason_where_there_is_no_part(self):
        for part in range(4):
            self.assertIs(shows_paper(chain(), NONE, (part, ())), True)
        for part in (4, -1, GREAT, True, False, None, "0", (0,)):
            self.assertIs(shows_paper(chain(), NONE, (part, ())), False)
        self.assertIs(shows_paper(NONE, NONE, (0, ())), False)
        self.assertIs(shows_paper(NONE, EDGE, (0, (("side",),))), False)
        self.assertIs(shows_paper(chain(), NONE, (0, [])), False)
        self.assertIs(shows_paper(chain(), NONE, (0, (("side",),))), False)

    def test_reasons_too_few_or_too_many(self):
        two = plain_rule(4, ((0, 1), (2, 3)))
        reason = ("size", (0,))
        self.assertIs(shows_paper(LOOP, two, (0, (reason, reason))), True)
        for reasons in ((), (reason,), (reason,) * 3, (reason, ()), (reason, None), (reason, ("size",))):
            self.assertIs(shows_paper(LOOP, two, (0, reasons)), False)

    def test_each_reason_is_of_its_own_part(self):
        other = Rule((0, 1, 3, 2), ((0, 1), (1, 0), (2, 2), (3, 3)))
        self.assertIs(shows_paper(LOOP, other, (0, (("size", (0,)), ("side",), ("side",)))), True)
        self.assertIs(shows_paper(LOOP, other, (0, (("side",), ("size", (0,)), ("side",)))), False)


class SizeReasonTest(unittest.TestCase):
    rule = plain_rule(5, ((0, 1), (2, 2), (2, 3), (3, 4)))

    def shown(self, part, marks):
        return shows_paper(self.rule, EDGE, (part, (("size", marks),)))

    def test_right_ones(self):
        for marks in ((2,), (2, 2, 2), (2, 2, 3), (3, 2, 2), (2, 3, 4, 3, 2)):
            self.assertIs(self.shown(1, marks), True)

    def test_a_ring_that_is_none(self):
        for marks in ((3,), (2, 3, 4), (2, 4, 3), (), (4, 4, 4), (2, 2, 4)):
            self.assertIs(self.shown(1, marks), False)

    def test_a_ring_in_another_part(self):
        self.assertIs(self.shown(0, (2,)), False)
        self.assertIs(shows_paper(self.rule, wheel(3, 0), (0, (("size", (0, 1)),))), True)
        self.assertIs(shows_paper(self.rule, wheel(3, 0), (1, (("size", (0, 1)),))), False)

    def test_a_size_that_the_other_part_has(self):
        self.assertIs(self.shown(1, (2, 2)), False)
        self.assertIs(self.shown(1, (2, 3, 4, 3)), False)
        self.assertIs(self.shown(0, (0, 1)), False)

    def test_no_marks(self):
        for marks in ((5,), (-1,), (True,), (2, 2, Strange()), [2], "2", 2, None, (GREAT,), ((2,),), {2}, b"\x02"):
            self.assertIs(self.shown(1, marks), False)


class SideReasonTest(unittest.TestCase):
    def test_right_and_wrong(self):
        side = ("side",)
        self.assertIs(shows_paper(LOOP, SIDED, (0, (side, side))), True)
        self.assertIs(shows_paper(LOOP, gaps_alone(), (0, (side,))), False)
        self.assertIs(shows_paper(SIDED, SIDED, (0, (side, side))), False)
        self.assertIs(shows_paper(SIDED, LOOP, (0, (side,))), False)
        for wrong in (("side", ()), ("side", (0,)), "side", ["side"], ("Side",), ("",), (side,), ("side", None)):
            self.assertIs(shows_paper(LOOP, SIDED, (0, (side, wrong))), False)


class WayReasonTest(unittest.TestCase):
    def shown(self, rule, other, marks, part=0):
        return shows_paper(rule, other, (part, (("way", marks),)))

    def test_right_ones(self):
        for marks in ((0,), (2,), (1, 2, 3), (3, 0, 1), (0, 1, 2, 3, 0)):
            self.assertIs(self.shown(wheel(4, 0), wheel(4, 1), marks), True)
        for marks in ((0, 1), (1, 2, 3, 0), (3, 0, 1, 2), (2, 3)):
            self.assertIs(self.shown(wheel(4, 1), wheel(4, 0), marks), True)
            self.assertIs(self.shown(wheel(4, 1), wheel(4, 2), marks), True)

    def test_an_even_number_where_an_odd_one_is_asked(self):
        self.assertIs(self.shown(wheel(4, 0), wheel(4, 2), (0,)), False)
        self.assertIs(self.shown(wheel(4, 1), wheel(4, 3), (0, 1)), False)
        every = Rule((0, 2, 1), tuple(itertools.product(range(3), repeat=2)))
        # Sizes, axes and ways of a part are what they are, whether it would fit otherwise or not.
        self.assertIs(self.shown(every, wheel(2, 0), (1, 2)), True)
        self.assertIs(self.shown(every, wheel(2, 0), (1, 1, 2)), False)
        self.assertIs(self.shown(every, wheel(2, 1), (1, 1, 2)), True)

    def test_it_does_not_end_at_the_mirror(self):
        for marks in ((0, 1), (0, 1, 2), (1, 2, 3, 0, 1), (2, 3, 0)):
            self.assertIs(self.shown(wheel(4, 0), wheel(4, 1), marks), False)

    def test_no_walk(self):
        wrong = ((1, 3), (1, 0, 3), (), (1, 1, 3), (2, 2, 2), [0], None, "0", (False,), (0, Strange(), 0), (4,), (-4,))
        for marks in wrong:
            self.assertIs(self.shown(wheel(4, 0), wheel(4, 1), marks), False)

    def test_a_walk_in_another_part(self):
        rule = plain_rule(4, ((0, 1), (2, 3)))
        self.assertIs(self.shown(rule, wheel(2, 1), (2,), part=1), True)
        self.assertIs(self.shown(rule, wheel(2, 1), (2,), part=0), False)

    def test_a_walk_that_leaves_the_part(self):
        # From 0, its own mirror, steps lead to 1, and from 2 back, but 1 and 2 are in no part.
        rule = Rule((0, 2, 1, 3), ((0, 1), (0, 3), (2, 0), (3, 0)))
        self.assertEqual(parts(rule), ((0, 3),))
        self.assertIs(self.shown(rule, wheel(2, 1), (0, 3, 0)), True)
        self.assertIs(self.shown(rule, wheel(2, 1), (2, 0, 1)), False)
        self.assertIs(self.shown(rule, wheel(2, 1), (2, 0, 3, 0, 1)), False)

    def test_an_odd_period(self):
        self.assertIs(self.shown(wheel(3, 0), wheel(3, 1), (0,)), False)
        self.assertIs(self.shown(LOOP, gaps_alone(), (0, 0)), False)

    def test_parts_that_are_not_their_own_mirrors(self):
        joined = Rule((1, 0), ((0, 0), (0, 1), (1, 1)))
        self.assertIs(self.shown(joined, wheel(2, 0), (0, 1)), False)
        swap = one_way_rule(2, ((0, 1), (1, 0)))
        way = ("way", (0, 1))
        self.assertIs(shows_paper(wheel(2, 1), swap, (0, (way, way))), False)
        self.assertIs(shows_paper(wheel(2, 1), swap, (0, (("side",), ("side",)))), True)


class AxesReasonTest(unittest.TestCase):
    def shown(self, rings, rule=wheel(2, 1), other=GAPS_OF_TWO):
        return shows_paper(rule, other, (0, (("axes", rings),)))

    def paper(self):
        word, (part, reasons) = judged(wheel(2, 1), GAPS_OF_TWO)
        return reasons[0][1]

    def test_right_ones(self):
        self.assertIs(self.shown(self.paper()), True)
        self.assertIs(self.shown((((0,), 0),), LOOP, gaps_alone()), True)
        self.assertIs(self.shown((((0,), 1),), LOOP, places_alone()), True)
        self.assertIs(self.shown((((0, 0), 0),), LOOP, gaps_alone()), True)
        self.assertIs(self.shown((((0, 0), 2),), LOOP, gaps_alone()), True)

    def test_an_axis_that_the_other_part_has(self):
        self.assertIs(self.shown((((0, 0), 1),), LOOP, gaps_alone()), False)
        self.assertIs(self.shown((((0, 0), 3),), LOOP, gaps_alone()), False)
        self.assertIs(self.shown((((0,) * 4, 0),), LOOP, places_alone()), False)
        self.assertIs(self.shown((((0,) * 2, 0),), LOOP, places_alone()), True)

    def test_a_pair_too_few_or_too_many(self):
        rings = self.paper()
        self.assertEqual(len(rings), 2)
        for wrong in ((), rings[:1], rings[1:], rings + rings[:1], rings + ((),), (rings,), rings[0]):
            self.assertIs(self.shown(wrong), False)

    def test_another_order(self):
        seen = set()
        pairs = [(marks, s) for marks in ((0, 1), (1, 0), (0, 1, 0, 1)) for s in range(2 * len(marks) + 2)]
        for rings in itertools.product(pairs, repeat=2):
            shown = self.shown(rings)
            self.assertIs(shown, is_plain_reason(wheel(2, 1), 0, GAPS_OF_TWO, 0, ("axes", rings)))
            seen.add((shown, self.shown(rings[::-1])))
        self.assertEqual(seen, {(True, False), (False, True), (False, False), (True, True)})

    def test_not_mirrored_at_s_or_s_too_great(self):
        for s in (0, 2, 4, 5, 6, 7, -1, -2, -3, -4, GREAT, 4 * GREAT + 1, True, False, None, "1", (1,)):
            for at in (0, 1):
                rings = list(self.paper())
                rings[at] = (rings[at][0], s)
                self.assertIs(self.shown(tuple(rings)), False)
        for s in (2, 3, -1, -2, GREAT, False, True):
            self.assertIs(self.shown((((0,), s),), LOOP, gaps_alone()), False)

    def test_no_ring_in_the_part(self):
        rule = plain_rule(3, ((0, 0), (1, 2)))
        self.assertIs(self.shown((((0,), 0),), rule, gaps_alone()), True)
        for marks in ((1,), (1, 2), (0, 1), (), (3,), [0], None, (True,), (False,), "0", (0, Strange())):
            self.assertIs(self.shown(((marks, 0),), rule, gaps_alone()), False)

    def test_no_rings(self):
        self.assertIs(self.shown((), LOOP, gaps_alone()), False)
        # Here no shift is left by the turnings at all, so there is no such reason.
        self.assertIs(self.shown((), wheel(4, 1), wheel(4, 2)), False)
        self.assertIs(self.shown((((0, 1, 2, 3), 1),), wheel(4, 1), wheel(4, 2)), False)

    def test_a_period_that_does_not_part_the_period(self):
        # The loop has mirror rings of one place, the wheel hasn't; but its period is no part of 1.
        self.assertIs(self.shown((((0,), 0),), LOOP, wheel(3, 0)), False)
        self.assertIs(self.shown((((0, 1), 0), ((0, 1), 0)), EDGE, wheel(4, 0)), False)
        self.assertIs(self.shown((((0, 1), 0),), EDGE, wheel(3, 0)), False)

    def test_parts_that_are_not_their_own_mirrors(self):
        pair = ("axes", (((0,), 0),))
        self.assertIs(shows_paper(LOOP, SIDED, (0, (pair, pair))), False)
        self.assertIs(shows_paper(SIDED, gaps_alone(), (0, (pair,))), False)

    def test_far_ones(self):
        one, other = far_mirror_rules()
        word, paper = judged(one, other)
        self.assertEqual(word, "none")
        self.assertIs(shows_paper(one, other, paper), True)


class AnyThingTest(unittest.TestCase):
    def told_papers(self):
        rules = [(LOOP, EDGE), (LOOP, SIDED), (wheel(4, 1), wheel(4, 2)), (LOOP, gaps_alone())]
        rules += [(wheel(2, 1), GAPS_OF_TWO), far_rules()]
        return [(rule, other, judged(rule, other)[1]) for rule, other in rules]

    def test_of_anything(self):
        for rule, other, paper in self.told_papers():
            for thing in oddities():
                self.assertIs(shows_paper(rule, other, thing), False)
                self.assertIs(shows_paper(rule, other, (0, thing)), False)
                self.assertIs(shows_paper(rule, other, (0, (thing,) * len(paper[1]))), False)
                for word in ("size", "side", "way", "axes"):
                    reasons = ((word, thing),) * len(paper[1])
                    self.assertIs(shows_paper(rule, other, (0, reasons)), False)
                self.assertIs(shows_paper(rule, other, (0, (("axes", (thing,)),))), False)
                self.assertIs(shows_paper(rule, other, (0, (("axes", ((thing, 0),)),))), False)
                self.assertIs(shows_paper(rule, other, (0, ((thing, (0,)),))), False)

    def test_of_kinds_otherwise(self):
        for rule, other, paper in self.told_papers():
            self.assertIs(shows_paper(rule, other, paper), True)
            for thing in wrong_kinds(paper):
                self.assertIs(shows_paper(rule, other, thing), False)

    def test_words_otherwise(self):
        for rule, other, (part, reasons) in self.told_papers():
            for word in ("size", "side", "way", "axes", "", "Size", "sizes", 0, None, b"size", ("size",)):
                if word != reasons[0][0]:
                    changed = ((word,) + reasons[0][1:],) + reasons[1:]
                    self.assertIs(shows_paper(rule, other, (part, changed)), False)
            for more in (((),), (None,), (0,), ("size",)):
                self.assertIs(shows_paper(rule, other, (part, (reasons[0] + more,) + reasons[1:])), False)
            self.assertIs(shows_paper(rule, other, (part, (reasons[0][:-1],) + reasons[1:])), False)

    def test_a_part_that_is_not_there(self):
        for rule, other, (part, reasons) in self.told_papers():
            for wrong in (1, 2, -1, GREAT, -GREAT, False, None, "0"):
                self.assertIs(shows_paper(rule, other, (wrong, reasons)), False)
            self.assertIs(shows_paper(rule, other, (part, reasons, ())), False)
            self.assertIs(shows_paper(rule, other, (part,)), False)

    def test_deeply_nested(self):
        for deep in range(1, 31):
            for kind in (tuple, list):
                thing = nested(kind, deep)
                for rule, other, paper in self.told_papers():
                    self.assertIs(shows_paper(rule, other, thing), False)
                    self.assertIs(shows_paper(rule, other, (0, thing)), False)

    def test_nothing_is_changed_and_the_same_is_told_again(self):
        rule, other, paper = self.told_papers()[-1]
        plan = judged(TURNED, TURNED)[1]
        listed = [[0, []], [list(plan)]]
        kept = copy.deepcopy((paper, plan, listed))
        for _ in range(2):
            self.assertIs(shows_paper(thing=paper, other=other, rule=rule), True)
            self.assertIs(shows_plan(thing=plan, other=TURNED, rule=TURNED), True)
            self.assertIs(shows_paper(rule, other, listed), False)
            self.assertIs(shows_plan(rule, other, listed), False)
        self.assertEqual((paper, plan, listed), kept)
        self.assertEqual((rule, other), far_rules())

    def test_told_ones_of_many_rules(self):
        rules = scattered_rules(6, 12) + scattered_rules(8, 12) + [two_wheels(3, 4), wheel(4, 1), wheel(4, 2)]
        words = set()
        for rule, other in itertools.product(rules, rules):
            word, thing = judged(rule, other)
            self.assertIs(shows_plan(rule, other, thing), word == "plan")
            self.assertIs(shows_paper(rule, other, thing), word == "none")
            words |= {reason[0] for reason in thing[1]} if word == "none" else {word}
        self.assertEqual(words, {"plan", "size", "side", "way", "axes"})
