"""Points 2 and 3 over the whole program: arguments by name, refusals, equality, and how all goes together."""

import copy
import importlib
import inspect
import itertools
import unittest

from ringvouch import errors
from ringvouch.axes import axes, axis_classes
from ringvouch.classing import classes, period
from ringvouch.desk import Desk
from ringvouch.halves import is_mirror_size, least_half
from ringvouch.houses import House
from ringvouch.judging import judged
from ringvouch.lookers import Looker
from ringvouch.looks import shows_paper, shows_plan
from ringvouch.orders import both, either, leads
from ringvouch.parts import part_of, parts
from ringvouch.posts import posts
from ringvouch.reading import read_plan, read_ring, read_rule
from ringvouch.rings import around, is_ring, mark_at, mirrored, places, spelled, turned
from ringvouch.rules import Rule, one_way_rule, plain_rule
from ringvouch.showing import show_plan, show_ring, show_rule
from ringvouch.sizes import how_many, is_size, least_ring, sizes
from ringvouch.tables import put_behind, shows_table, table_of, told_by
from tests.samples import (
    Dice, all_rings, chain, crowd, faults, fitting_rules, gaps_alone, kind_of, mirror_ring_of, mixed_ring, no_axes,
    plain_axes, plain_axis_class, small_rules, two_wheels, wheel,
)
from tests.test_interface import CLASSES, FUNCTIONS

EDGE = plain_rule(2, ((0, 1),))
SIDED = one_way_rule(1, ((0, 0),))
NONE = plain_rule(3, ())
SLOW = plain_rule(4, ((0, 1), (1, 2), (2, 3), (3, 3)))
RING = ((3, (0, 1)), (1, (2, 1)))
TABLE = ("table", 0, (((0,), 1), ((1,), 0)))


# For each function of the interface what it is asked here, by the names of its arguments.
ASKED = {
    "plain_rule": {"many": 3, "pairs": ((0, 1), (1, 2))},
    "one_way_rule": {"many": 2, "pairs": ((0, 1), (1, 0))},
    "is_ring": {"rule": crowd(3), "thing": RING},
    "places": {"ring": RING},
    "mark_at": {"ring": RING, "place": -2},
    "around": {"ring": RING, "place": 3, "far": 2},
    "turned": {"ring": RING, "by": 3},
    "mirrored": {"rule": crowd(3), "ring": RING},
    "spelled": {"ring": RING},
    "parts": {"rule": chain()},
    "part_of": {"rule": chain(), "mark": 2},
    "mirror_part": {"rule": chain(), "part": 1},
    "period": {"rule": wheel(4, 1), "part": 0},
    "classes": {"rule": wheel(4, 1), "part": 0},
    "turning": {"rule": wheel(4, 1), "part": 0},
    "is_size": {"rule": EDGE, "part": 0, "n": 4},
    "sizes": {"rule": EDGE, "part": 0, "most": 9},
    "how_many": {"rule": EDGE, "part": 0, "n": 4},
    "least_ring": {"rule": EDGE, "part": 0, "n": 4},
    "axes": {"rule": crowd(3), "marks": (0, 1, 2, 1)},
    "axis_classes": {"rule": EDGE, "part": 0},
    "is_mirror_size": {"rule": EDGE, "part": 0, "first": 2, "n": 4},
    "least_half": {"rule": EDGE, "part": 0, "first": 2, "n": 4},
    "has_walk": {"rule": SLOW, "one": 0, "other": 3, "n": 3},
    "least_walk": {"rule": SLOW, "one": 0, "other": 3, "n": 5},
    "span": {"rule": SLOW, "part": 0},
    "doublings": {"span": 5},
    "fits": {"rule": EDGE, "part": 0, "other": SLOW, "its": 0, "shift": 0},
    "judged": {"rule": EDGE, "other": SLOW},
    "shows_plan": {"rule": EDGE, "other": SLOW, "thing": ((0, 0),)},
    "shows_paper": {"rule": SLOW, "other": EDGE, "thing": (0, (("size", (3,)),))},
    "least_period": {"marks": (0, 1, 1, 0, 1)},
    "least_turn": {"marks": (2, 1, 0, 1)},
    "read_back": {"rule": SIDED, "marks": (0, 1, 1)},
    "lesser": {"rule": crowd(3), "marks": (2, 1, 0)},
    "is_tame": {"span": 1, "marks": (0, 1, 0, 1, 0, 1, 0, 1, 0)},
    "is_centre": {"rule": crowd(3), "marks": (0, 1, 0)},
    "posts": {"rule": crowd(3), "span": 1, "ring": ((9, (0, 1)), (1, (2, 1)))},
    "shows_table": {"rule": EDGE, "other": EDGE, "thing": TABLE},
    "told_by": {"table": TABLE, "ring": ((2, (0, 1)),)},
    "table_of": {"rule": EDGE, "other": EDGE, "far": 1},
    "put_behind": {"rule": EDGE, "first": TABLE, "second": TABLE},
    "leads": {"rule": EDGE, "other": SLOW},
    "as_good": {"one": EDGE, "other": SLOW},
    "either": {"one": EDGE, "other": SIDED},
    "both": {"one": EDGE, "other": SIDED},
    "plan_behind": {"rule": EDGE, "middle": EDGE, "other": SLOW, "first": ((0, 1),), "second": ((0, 0),)},
    "show_rule": {"rule": SIDED},
    "show_ring": {"ring": RING},
    "show_plan": {"plan": ((0, 1),)},
    "show_reason": {"reason": ("axes", (((0, 1), 3),))},
    "read_rule": {"text": "marks 2\nstep 0 1\nstep 1 0"},
    "read_ring": {"text": "3*0.1 1*2"},
    "read_plan": {"text": "0/1 2/0"},
}


def values_of(told):
    return (told.mirrors, told.steps) if isinstance(told, Rule) else told


class NamesTest(unittest.TestCase):
    def test_each_function_by_places_by_names_and_again(self):
        for module, rows in FUNCTIONS.items():
            for row in rows:
                name = row.partition("(")[0]
                function = getattr(importlib.import_module("ringvouch." + module), name)
                asked = ASKED[name]
                kept = copy.deepcopy({key: values_of(thing) for key, thing in asked.items()})
                with self.subTest(name):
                    wanted = function(*asked.values())
                    self.assertEqual(list(asked), list(inspect.signature(function).parameters))
                    for order in itertools.islice(itertools.permutations(asked), 24):
                        self.assertEqual(function(**{key: asked[key] for key in order}), wanted)
                    self.assertEqual(function(*asked.values()), wanted)
                    self.assertEqual(kind_of(values_of(function(*asked.values()))), kind_of(values_of(wanted)))
                    self.assertEqual({key: values_of(thing) for key, thing in asked.items()}, kept)

    def test_classes(self):
        self.assertEqual(Rule(steps=EDGE.steps, mirrors=(0, 1)), EDGE)
        looker = Looker(plan=((0, 0),), other=SLOW, rule=EDGE)
        self.assertEqual(looker.told_all(ring=((2, (0, 1)),)), Looker(EDGE, SLOW).told_all(((2, (0, 1)),)))
        house = House(plan=((0, 0),), marks=(0, 1), other=SLOW, rule=EDGE)
        house.put(out=0, marks=(0, 1), at=0)
        self.assertEqual(house.marks(), (0, 1, 0, 1))
        self.assertEqual(Desk(other=show_rule(SLOW), rule=show_rule(EDGE)).say(line="judged"), "plan 0/0")
        self.assertEqual(set(CLASSES), {"rules", "lookers", "houses", "desk"})

    def test_arguments_behind_a_star_by_their_names_alone(self):
        with self.assertRaises(TypeError):
            Looker(EDGE, EDGE, ((0, 0),))
        with self.assertRaises(TypeError):
            House(EDGE, EDGE, (0, 1), ((0, 0),))


class ErrorsTest(unittest.TestCase):
    def test_each_of_the_eleven_refusals(self):
        desk = Desk(show_rule(EDGE), show_rule(EDGE))
        house = House(EDGE, EDGE, (0, 1))
        far = ("table", 2, ())
        met = {
            "NoRule": lambda: Rule((0,), ((0, 1),)),
            "NoText": lambda: read_plan("0"),
            "NoRing": lambda: Looker(EDGE, EDGE).told(((1, (0,)),), 0),
            "NoLooker": lambda: Looker(EDGE, NONE),
            "NoPlan": lambda: Looker(EDGE, EDGE, plan=()),
            "NoPlace": lambda: house.put(3, 0, ()),
            "NoBack": lambda: house.back(),
            "NoHouse": lambda: desk.say("marks"),
            "NoLine": lambda: desk.say("line"),
            "TooMany": lambda: posts(EDGE, 1, ((1501, (0, 1)),)),
            "TooFar": lambda: put_behind(NONE, far, far),
        }
        self.assertEqual(len(met), 11)
        for name, ask in met.items():
            kind = getattr(errors, name)
            with self.assertRaises(ValueError) as caught:
                ask()
            self.assertIs(type(caught.exception), kind)
            self.assertEqual(kind.__bases__, (errors.RingError,))
            others = [getattr(errors, other) for other in met if other != name]
            self.assertNotIsInstance(caught.exception, tuple(others))

    def test_each_too_many(self):
        for ask in (
            lambda: spelled(((6001, (0,)),)), lambda: posts(crowd(1), 1, ((3001, (0,)),)),
            lambda: Looker(crowd(1), crowd(1)).told_all(((3001, (0,)),)), lambda: table_of(crowd(4), EDGE, 1),
            lambda: told_by(("table", 0, (((0,), 0),)), ((3001, (0,)),)), lambda: either(crowd(4), crowd(5)),
            lambda: both(crowd(3), crowd(3)),
        ):
            with self.assertRaises(errors.TooMany) as caught:
                ask()
            self.assertIs(type(caught.exception), errors.TooMany)


class EqualityTest(unittest.TestCase):
    def test_objects_equal_nothing_of_another_kind(self):
        objects = [
            EDGE, Looker(EDGE, EDGE), House(EDGE, EDGE, (0, 1)), Desk(show_rule(EDGE), show_rule(EDGE)),
            errors.NoRing("x"), errors.NoText(0),
        ]
        things = [None, 0, True, "", (), (EDGE.mirrors, EDGE.steps), EDGE.steps, [], {}, object(), ((0, 0),), (0, 1)]
        for one in objects:
            for other in things + [other for other in objects if other is not one]:
                self.assertFalse(one == other)
                self.assertTrue(one != other)
                self.assertFalse(other == one)
            self.assertTrue(one == one)


class AllTogetherTest(unittest.TestCase):
    def test_just_one_of_plan_and_paper(self):
        dice = Dice(71)
        rules = fitting_rules() + small_rules()[::30]
        for at, rule in enumerate(rules):
            for other in rules[at % 4::4]:
                word, found = judged(rule, other)
                self.assertIs(shows_plan(rule, other, found), word == "plan")
                self.assertIs(shows_paper(rule, other, found), word == "none")
                if word == "none":
                    with self.assertRaises(errors.NoLooker):
                        Looker(rule, other)
                elif parts(rule):
                    number = dice.below(len(parts(rule)))
                    marks = mixed_ring(rule, number, 1, dice)
                    told = Looker(rule, other).told_all(((1, marks),))
                    faults(self, rule, other, found, number, marks, told)

    def test_told_rings_keep_axes(self):
        # A mirror ring is told as a mirror ring with the same axes, of the axis classes that the plan tells.
        dice = Dice(72)
        for rule, other in ((crowd(3), SLOW), (gaps_alone(), crowd(2)), (EDGE, SLOW), (two_wheels(2, 4), EDGE)):
            if not leads(rule, other):
                continue
            looker = Looker(rule, other)
            its, shift = looker.plan[0]
            for n in (1, 4, 5, 30, 61):
                marks = mirror_ring_of(rule, 0, n, dice)
                told = looker.told_all(((1, marks),))
                self.assertLessEqual(set(plain_axes(rule, marks)), set(plain_axes(other, told)))
                for s in plain_axes(rule, marks):
                    first = plain_axis_class(rule, 0, marks, s)
                    wanted = (first + 2 * shift) % (2 * period(other, its))
                    self.assertEqual(plain_axis_class(other, its, told, s), wanted)
                    self.assertTrue(is_mirror_size(other, its, wanted, len(marks)))

    def test_sizes_mirror_sizes_and_counts_are_exact(self):
        for rule in (EDGE, SLOW, chain(), gaps_alone(), no_axes(), two_wheels(2, 3), wheel(3, 1)):
            for n in range(1, 7):
                rings = all_rings(rule, n)
                for number in range(len(parts(rule))):
                    inner = [marks for marks in rings if part_of(rule, marks[0]) == number]
                    self.assertEqual(how_many(rule, number, n), len(inner))
                    self.assertIs(is_size(rule, number, n), len(inner) > 0)
                    self.assertEqual(least_ring(rule, number, n), inner[0] if inner else None)
                    for first in axis_classes(rule, number):
                        classed = [
                            marks for marks in inner for s in axes(rule, marks)
                            if plain_axis_class(rule, number, marks, s) == first
                        ]
                        self.assertIs(is_mirror_size(rule, number, first, n), len(classed) > 0)
                        self.assertIs(least_half(rule, number, first, n) is not None, len(classed) > 0)

    def test_what_is_read_goes_on_as_what_was_shown(self):
        dice = Dice(73)
        for rule, other in ((crowd(3), SLOW), (SIDED, SLOW), (chain(), chain()), (two_wheels(2, 3),) * 2):
            if not leads(rule, other):
                continue
            again, other_again = read_rule(show_rule(rule)), read_rule(show_rule(other))
            looker = Looker(rule, other)
            plan = read_plan(show_plan(looker.plan))
            number = dice.below(len(parts(rule)))
            ring = ((3, mixed_ring(rule, number, 1, dice)),)
            told = Looker(again, other_again, plan=plan).told_all(read_ring(show_ring(ring)))
            self.assertEqual(told, looker.told_all(ring))
            self.assertEqual(sizes(again, number, 50), sizes(rule, number, 50))
            self.assertEqual(classes(again, number), classes(rule, number))

    def test_told_marks_by_a_table_and_by_a_looker_are_both_rings(self):
        for rule, other in ((EDGE, SLOW), (crowd(2), crowd(3)), (gaps_alone(), gaps_alone())):
            table = table_of(rule, other, 1)
            self.assertTrue(shows_table(rule, other, table))
            for n in range(1, 6):
                for marks in all_rings(rule, n):
                    self.assertTrue(is_ring(other, ((1, told_by(table, ((1, marks),))),)))
                    self.assertTrue(is_ring(other, ((1, Looker(rule, other).told_all(((1, marks),))),)))

    def test_a_great_ring_turned_mirrored_and_told(self):
        looker = Looker(crowd(3), SLOW)
        ring = ((10 ** 29, (0, 1)), (1, (2, 0, 0)))
        n = places(ring)
        back = mirrored(crowd(3), ring)
        for place in (0, 1, 17, 2 * 10 ** 29 - 1, 2 * 10 ** 29 + 1, 10 ** 29):
            told = looker.told(ring, place)
            self.assertEqual(looker.told(turned(ring, 10 ** 28 + 1), place - 10 ** 28 - 1), told)
            self.assertEqual(looker.told(back, n - 1 - place), SLOW.mirror(told))
            self.assertEqual(mark_at(ring, place), around(ring, place, 3)[3])

    def test_a_desk_and_a_house_go_together(self):
        dice = Dice(74)
        desk = Desk(show_rule(crowd(3)), show_rule(SLOW))
        house = House(crowd(3), SLOW, (0, 1, 2))
        desk.say("begin 0.1.2")
        for _ in range(20):
            at = dice.below(len(house.marks()) + 1)
            marks = tuple(dice.below(3) for _ in range(1 + dice.below(3)))
            house.put(at, 0, marks)
            desk.say(f"put {at} 0 " + ".".join(str(mark) for mark in marks))
        for _ in range(5):
            house.back()
            desk.say("back")
        self.assertEqual(desk.say("marks"), ".".join(str(mark) for mark in house.marks()))
        self.assertEqual(desk.say("all"), ".".join(str(mark) for mark in house.told_all()))
