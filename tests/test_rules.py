"""Point 4: rules."""

import copy
import itertools
import unittest

from ringvouch.errors import NoRule, RingError
from ringvouch.rules import Rule, one_way_rule, plain_rule
from tests.samples import Strange, great_rules, involutions, nested, oddities, small_rules, wheel


class RuleTest(unittest.TestCase):
    def test_a_rule_has_its_values(self):
        rule = Rule((1, 0, 2), ((0, 2), (2, 1), (2, 2)))
        self.assertEqual(rule.mirrors, (1, 0, 2))
        self.assertEqual(rule.steps, ((0, 2), (2, 1), (2, 2)))
        self.assertEqual(rule.marks(), 3)
        self.assertEqual([rule.mirror(mark) for mark in range(3)], [1, 0, 2])
        self.assertEqual([rule.behind(mark) for mark in range(3)], [(2,), (), (1, 2)])

    def test_marks_mirror_and_behind_of_each_mark(self):
        for rule in small_rules() + great_rules():
            many = len(rule.mirrors)
            self.assertEqual(rule.marks(), many)
            for mark in range(many):
                self.assertEqual(rule.mirror(mark), rule.mirrors[mark])
                followers = tuple(b for b in range(many) if (mark, b) in rule.steps)
                self.assertEqual(rule.behind(mark), followers)

    def test_one_to_eight_marks_with_all_their_mirrors(self):
        for many in range(1, 9):
            for mirrors in involutions(many)[:30]:
                self.assertEqual(Rule(mirrors, ()).mirrors, mirrors)
            self.assertEqual(wheel(many, 3).marks(), many)

    def test_all_steps_of_eight_marks(self):
        every = tuple(itertools.product(range(8), repeat=2))
        rule = Rule((7, 6, 5, 4, 3, 2, 1, 0), every)
        self.assertEqual(rule.behind(5), (0, 1, 2, 3, 4, 5, 6, 7))

    def test_arguments_by_name(self):
        rule = Rule(steps=((0, 0),), mirrors=(0, 1))
        self.assertEqual(rule, Rule((0, 1), ((0, 0),)))
        self.assertEqual(rule.mirror(mark=1), 1)
        self.assertEqual(rule.behind(mark=0), (0,))

    def test_the_same_again(self):
        rule = Rule((1, 0), ((0, 0), (1, 1)))
        for _ in range(3):
            self.assertEqual(rule.marks(), 2)
            self.assertEqual(rule.behind(0), (0,))
            self.assertEqual((rule.mirrors, rule.steps), ((1, 0), ((0, 0), (1, 1))))


class EqualRulesTest(unittest.TestCase):
    def test_equal_just_where_both_values_are(self):
        rules = small_rules()[:60]
        for (at, one), (its, other) in itertools.product(enumerate(rules), repeat=2):
            self.assertIs(one == other, at == its)
            self.assertIs(one != other, at != its)

    def test_equal_though_made_apart(self):
        for rule in great_rules():
            again = Rule(tuple(list(rule.mirrors)), tuple(list(rule.steps)))
            self.assertIs(rule == again, True)
            self.assertIs(rule != again, False)

    def test_not_equal_where_only_one_value_is(self):
        self.assertFalse(Rule((0, 1), ()) == Rule((1, 0), ()))
        self.assertFalse(Rule((0, 1), ()) == Rule((0, 1), ((0, 0),)))

    def test_equal_to_nothing_of_another_kind(self):
        rule = Rule((0,), ((0, 0),))
        for thing in (((0,), ((0, 0),)), (0,), "marks 1", "", None, 0, 1, True, [], {}, object()):
            self.assertIs(rule == thing, False)
            self.assertIs(thing == rule, False)
            self.assertIs(rule != thing, True)

    def test_equal_to_nothing_that_only_looks_like_one(self):
        class Alike:
            mirrors = (0,)
            steps = ((0, 0),)

        self.assertIs(Rule((0,), ((0, 0),)) == Alike(), False)


class NoRuleTest(unittest.TestCase):
    def refused(self, field, mirrors, steps):
        with self.assertRaises(NoRule) as caught:
            Rule(mirrors, steps)
        self.assertEqual(caught.exception.field, field)
        self.assertIsInstance(caught.exception, RingError)
        self.assertIsInstance(caught.exception, ValueError)

    def test_wrong_mirrors(self):
        wrong = [
            (), [0], [0, 1], (0, 1, 2, 3, 4, 5, 6, 7, 8), tuple(range(1000)), (-1,), (0, -1), (1, 2), (1,), (0, 2),
            (True,), (False,), (True, False), (0, True), (1, False), ("0",), (0, "1"), (None,), (0, None), ((0,),),
            (0, (1,)), ([0],), (0, nested(tuple, 28)), (1, 2, 0), (0, 0), (1, 1), (2, 0, 1), (0, 2, 2), (1, 0, 0),
            (10 ** 29,), (0, Strange()), "01", {0: 0}, {0}, range(1), (b"\x00",),
        ]
        for mirrors in wrong + oddities():
            with self.subTest(mirrors=repr(mirrors)[:80]):
                self.refused("mirrors", mirrors, ())

    def test_every_tuple_of_three_numbers(self):
        good = involutions(3)
        for mirrors in itertools.product(range(-1, 4), repeat=3):
            if mirrors in good:
                self.assertEqual(Rule(mirrors, ()).mirrors, mirrors)
            else:
                self.refused("mirrors", mirrors, ())

    def test_wrong_steps(self):
        wrong = [
            [], [(0, 0)], ((0, 1), (0, 0), (1, 0)), ((1, 1), (0, 0)), ((0, 0), (0, 0)), ((0, 1), (0, 1), (1, 0)),
            ([0, 0],), ((0, 0), [1, 1]), ((0,),), ((0, 0, 0),), ((0, 0), (1, 1, 1)), ((),), ((0, 2), (2, 0)), ((2, 2),),
            ((-1, -1),), ((-1, 0), (0, -1)), ((0, 1),), ((1, 0),), ((0, 0), (0, 1)), ((True, True),), ((False, False),),
            ((0, True), (True, 0)), (("0", "0"),), ((None, None),), (((0,), (0,)),), (([0], [0]),), (0,), (0, 0),
            ("00",), (b"\x00\x00",), (None,), "", "00", None, {}, {(0, 0)}, {(0, 0): 1}, range(0), 0,
            ((0, nested(tuple, 27)),), ((0, 0), nested(tuple, 28)), ((Strange(), Strange()),), ((0, 0), Strange()),
            ((10 ** 29, 10 ** 29),), ((0, 0), None), (((0, 0),),),
        ]
        for steps in wrong:
            with self.subTest(steps=repr(steps)[:80]):
                self.refused("steps", (0, 1), steps)

    def test_odd_steps(self):
        for steps in oddities():
            if not (isinstance(steps, tuple) and len(steps) == 0):
                with self.subTest(steps=repr(steps)[:80]):
                    self.refused("steps", (0, 1), steps)

    def test_a_step_whose_mirror_step_lacks(self):
        self.refused("steps", (1, 0), ((0, 0),))
        self.refused("steps", (1, 0), ((1, 1),))
        self.refused("steps", (1, 0, 2), ((0, 2),))
        self.refused("steps", (1, 0, 2), ((0, 2), (1, 2)))
        self.assertEqual(Rule((1, 0), ((0, 1),)).behind(0), (1,))
        self.assertEqual(Rule((1, 0), ((1, 0),)).behind(1), (0,))

    def test_every_tuple_of_two_steps(self):
        marks = (0, 1)
        for mirrors in ((0, 1), (1, 0)):
            for steps in itertools.product(itertools.product(marks, repeat=2), repeat=2):
                back = {(mirrors[b], mirrors[a]) for a, b in steps}
                if steps[0] < steps[1] and back == set(steps):
                    self.assertEqual(Rule(mirrors, steps).steps, steps)
                else:
                    self.refused("steps", mirrors, steps)

    def test_mirrors_are_named_ahead_of_steps(self):
        for mirrors in ((), [0], None, (1,), (True,)):
            for steps in (None, [], ((0, 1), (0, 0)), ((5, 5),)):
                self.refused("mirrors", mirrors, steps)

    def test_what_is_refused_stays_as_it_was(self):
        mirrors, steps = [0, [1]], [(0, 0), [0, 1]]
        self.refused("mirrors", mirrors, steps)
        self.refused("steps", (0, 1), steps)
        self.assertEqual((mirrors, steps), ([0, [1]], [(0, 0), [0, 1]]))


class MadeRulesTest(unittest.TestCase):
    def test_plain_rule(self):
        rule = plain_rule(3, ((2, 0), (0, 2), (1, 1), (2, 0), (1, 0)))
        self.assertEqual(rule, Rule((0, 1, 2), ((0, 1), (0, 2), (1, 0), (1, 1), (2, 0))))

    def test_plain_rule_of_all_small_pairs(self):
        every = list(itertools.product(range(2), repeat=2))
        for pairs in itertools.product(every, repeat=3):
            steps = sorted(set(pairs) | {(b, a) for a, b in pairs})
            self.assertEqual(plain_rule(2, pairs), Rule((0, 1), tuple(steps)))

    def test_one_way_rule(self):
        rule = one_way_rule(2, ((1, 0), (0, 1), (1, 0), (1, 1)))
        self.assertEqual(rule, Rule((2, 3, 0, 1), ((0, 1), (1, 0), (1, 1), (2, 3), (3, 2), (3, 3))))
        rule = one_way_rule(3, ((1, 2),))
        self.assertEqual(rule, Rule((3, 4, 5, 0, 1, 2), ((1, 2), (5, 4))))

    def test_no_pairs(self):
        self.assertEqual(plain_rule(3, ()), Rule((0, 1, 2), ()))
        self.assertEqual(one_way_rule(3, ()), Rule((3, 4, 5, 0, 1, 2), ()))

    def test_least_and_greatest(self):
        self.assertEqual(plain_rule(1, ((0, 0),)), Rule((0,), ((0, 0),)))
        self.assertEqual(plain_rule(8, ((7, 0),)), Rule(tuple(range(8)), ((0, 7), (7, 0))))
        self.assertEqual(one_way_rule(1, ((0, 0),)), Rule((1, 0), ((0, 0), (1, 1))))
        self.assertEqual(one_way_rule(4, ((3, 0),)), Rule((4, 5, 6, 7, 0, 1, 2, 3), ((3, 0), (4, 7))))
        every = tuple(itertools.product(range(8), repeat=2))
        self.assertEqual(plain_rule(8, every).steps, every)

    def test_arguments_by_name_and_the_same_again(self):
        pairs = ((1, 0), (1, 0))
        kept = copy.deepcopy(pairs)
        self.assertEqual(plain_rule(pairs=pairs, many=2), plain_rule(2, pairs))
        self.assertEqual(one_way_rule(pairs=pairs, many=2), one_way_rule(2, pairs))
        self.assertEqual(pairs, kept)
