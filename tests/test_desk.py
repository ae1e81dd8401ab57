"""Point 23: a desk; and point 3 (h), as far as the desk answers."""

import unittest

from ringvouch.axes import axis_classes
from ringvouch.desk import Desk
from ringvouch.errors import NoBack, NoHouse, NoLine, NoLooker, NoPlace, NoRing, NoText
from ringvouch.halves import is_mirror_size, least_half
from ringvouch.houses import House
from ringvouch.judging import judged
from ringvouch.lookers import Looker
from ringvouch.parts import parts
from ringvouch.rules import one_way_rule, plain_rule
from ringvouch.showing import show_plan, show_reason, show_rule
from ringvouch.sizes import is_size, least_ring, sizes
from tests.samples import (
    Strange, chain, crowd, fitting_rules, gaps_alone, no_axes, nested, oddities, places_alone, two_wheels, wheel,
)

EDGE = plain_rule(2, ((0, 1),))
NONE = plain_rule(3, ())
SIDED = one_way_rule(1, ((0, 0),))
SLOW = plain_rule(4, ((0, 1), (1, 2), (2, 3), (3, 3)))
HOUSE_LINES = ("put 0 0 0", "back", "marks", "all", "told 0", "moved")


def desk_of(rule, other):
    return Desk(show_rule(rule), show_rule(other))


def marks_text(marks):
    return ".".join(str(mark) for mark in marks) or "-"


class DeskTest(unittest.TestCase):
    def refuses(self, desk, line, kind):
        with self.assertRaises(kind) as caught:
            desk.say(line)
        self.assertIs(type(caught.exception), kind)


class AnswersTest(DeskTest):
    def answers_of_parts(self, desk, rule):
        shown = "; ".join(marks_text(part) for part in parts(rule)) or "-"
        self.assertEqual(desk.say("parts"), shown)
        for part in range(len(parts(rule))):
            for most in (0, 1, 2, 9, 300):
                wanted = " ".join(str(n) for n in sizes(rule, part, most)) or "-"
                self.assertEqual(desk.say(f"sizes {part} {most}"), wanted)
            for n in (1, 2, 3, 8, 60, 300, 301, 10 ** 29, 10 ** 30 - 1):
                self.assertEqual(desk.say(f"size {part} {n}"), "yes" if is_size(rule, part, n) else "no")
            for n in (1, 2, 5, 6, 300):
                ring = least_ring(rule, part, n)
                self.assertEqual(desk.say(f"ring {part} {n}"), "none" if ring is None else marks_text(ring))
            for first in axis_classes(rule, part):
                for n in (1, 2, 3, 8, 61, 300, 10 ** 29, 10 ** 30 - 1):
                    wanted = "yes" if is_mirror_size(rule, part, first, n) else "no"
                    self.assertEqual(desk.say(f"mirror {part} {first} {n}"), wanted)
                for n in (1, 2, 5, 6, 300):
                    half = least_half(rule, part, first, n)
                    wanted = "none" if half is None else marks_text(half)
                    self.assertEqual(desk.say(f"half {part} {first} {n}"), wanted)

    def answers_of_both(self, desk, rule, other):
        word, found = judged(rule, other)
        if word == "plan":
            self.assertEqual(desk.say("judged"), "plan " + show_plan(found))
            self.assertEqual(desk.say("why"), "plan")
            self.assertEqual(desk.say("reach"), str(Looker(rule, other).reach()))
        else:
            self.assertEqual(desk.say("judged"), "none")
            wanted = str(found[0]) + "".join("; " + show_reason(reason) for reason in found[1])
            self.assertEqual(desk.say("why"), wanted)
            self.refuses(desk, "reach", NoLooker)

    def test_as_the_functions_tell(self):
        rules = fitting_rules()
        for at, rule in enumerate(rules):
            other = rules[(7 * at + 3) % len(rules)]
            desk = desk_of(rule, other)
            self.answers_of_both(desk, rule, other)
            if at % 3 == 0:
                self.answers_of_parts(desk, rule)
            self.assertEqual(desk.say("swap"), "done")
            self.answers_of_both(desk, other, rule)
            if at % 3 == 1:
                self.answers_of_parts(desk, other)
            self.assertEqual(desk.say("swap"), "done")
            self.answers_of_both(desk, rule, other)

    def test_plain_answers(self):
        desk = desk_of(EDGE, SLOW)
        self.assertEqual(desk.say("parts"), "0.1")
        self.assertEqual(desk.say("sizes 0 7"), "2 4 6")
        self.assertEqual(desk.say("sizes 0 1"), "-")
        self.assertEqual(desk.say("sizes 0 0"), "-")
        self.assertEqual(desk.say("size 0 4"), "yes")
        self.assertEqual(desk.say("size 0 5"), "no")
        self.assertEqual(desk.say("mirror 0 0 4"), "yes")
        self.assertEqual(desk.say("mirror 0 0 3"), "no")
        self.assertEqual(desk.say("ring 0 4"), "0.1.0.1")
        self.assertEqual(desk.say("ring 0 3"), "none")
        self.assertEqual(desk.say("half 0 0 4"), "0.1.0")
        self.assertEqual(desk.say("half 0 2 2"), "1.0")
        self.assertEqual(desk.say("half 0 0 3"), "none")
        self.assertEqual(desk.say("judged"), "plan 0/0")
        self.assertEqual(desk.say("why"), "plan")
        self.assertEqual(desk_of(SLOW, EDGE).say("judged"), "none")
        self.assertEqual(desk_of(SLOW, EDGE).say("why"), "0; size 3")
        self.assertEqual(desk_of(crowd(2), plain_rule(4, ((0, 1), (2, 3)))).say("why"), "0; size 0; size 0")
        self.assertEqual(desk_of(EDGE, NONE).say("why"), "0")
        self.assertEqual(desk_of(NONE, EDGE).say("judged"), "plan -")
        self.assertEqual(desk_of(NONE, EDGE).say("reach"), "0")
        self.assertEqual(desk_of(NONE, EDGE).say("parts"), "-")
        self.assertEqual(desk_of(crowd(1), SIDED).say("why"), "0; side; side")
        self.assertEqual(desk_of(chain(), NONE).say("parts"), "0; 2; 3; 5")
        self.assertEqual(desk_of(wheel(2, 0), wheel(2, 1)).say("why"), "0; way 0")
        self.assertEqual(desk_of(gaps_alone(), places_alone()).say("why")[:8], "0; axes ")

    def test_a_house(self):
        desk = desk_of(crowd(3), SLOW)
        house = House(crowd(3), SLOW, (0, 1, 2))
        self.assertEqual(desk.say("begin 0.1.2"), "done")
        lines = (
            ("put 1 1 2.2", (1, 1, (2, 2))), ("put 0 0 1", (0, 0, (1,))), ("put 5 0 0.0", (5, 0, (0, 0))),
            ("put 2 3 -", (2, 3, ())), ("back", None), ("put 0 6 2", (0, 6, (2,))), ("back", None), ("back", None),
            ("put 0 0 -", (0, 0, ())), ("put 0 0 " + ".".join("01" * 30), (0, 0, (0, 1) * 30)),
        )
        for line, deed in lines:
            self.assertEqual(desk.say(line), "done")
            if deed is None:
                house.back()
            else:
                house.put(*deed)
            self.assertEqual(desk.say("marks"), marks_text(house.marks()))
            self.assertEqual(desk.say("all"), marks_text(house.told_all()))
            self.assertEqual(desk.say("moved"), str(house.moved()))
            for place in (0, 1, 5, 100, 10 ** 29, 10 ** 30 - 1):
                self.assertEqual(desk.say(f"told {place}"), str(house.told(place)))
        self.assertEqual(desk.say("begin 2.2"), "done")
        self.assertEqual(desk.say("marks"), "2.2")
        self.assertEqual(desk.say("moved"), "0")
        self.refuses(desk, "back", NoBack)

    def test_a_house_behind_swap(self):
        desk = desk_of(EDGE, SLOW)
        desk.say("begin 0.1")
        desk.say("swap")
        self.refuses(desk, "marks", NoHouse)
        self.refuses(desk, "begin 3.3", NoLooker)
        desk.say("swap")
        self.refuses(desk, "marks", NoHouse)
        desk = desk_of(SLOW, EDGE)
        self.refuses(desk, "begin 3.3", NoLooker)
        desk.say("swap")
        self.assertEqual(desk.say("begin 0.1.0.1"), "done")
        self.assertEqual(desk.say("all"), marks_text(Looker(EDGE, SLOW).told_all(((2, (0, 1)),))))

    def test_asked_again(self):
        desk = desk_of(two_wheels(2, 3), two_wheels(2, 3))
        desk.say("begin 0.1.0.2.3")
        for line in ("parts", "sizes 0 9", "ring 0 5", "half 0 0 5", "judged", "why", "reach", "marks", "all", "told 3"):
            self.assertEqual(desk.say(line), desk.say(line))
            self.assertIs(type(desk.say(line)), str)

    def test_by_names(self):
        desk = Desk(other=show_rule(SLOW), rule=show_rule(EDGE))
        self.assertEqual(desk.say(line="parts"), "0.1")

    def test_two_desks_are_two(self):
        one, two = desk_of(EDGE, SLOW), desk_of(EDGE, SLOW)
        one.say("begin 0.1")
        self.refuses(two, "marks", NoHouse)


class RefusalsTest(DeskTest):
    def test_no_text(self):
        good = show_rule(EDGE)
        for bad, row in (("", 0), ("marks 2\nstep 0 1", 2), ("marks 2\nstep 0 9", 1), (None, 0), (5, 0), (Strange(), 0)):
            for rule, other in ((bad, good), (good, bad), (bad, "marks 1\nx"), (bad, Strange())):
                wanted = row
                with self.assertRaises(NoText) as caught:
                    Desk(rule, other)
                self.assertIs(type(caught.exception), NoText)
                self.assertEqual(caught.exception.row, wanted)
        for thing in oddities():
            for rule, other in ((thing, good), (good, thing), (thing, thing)):
                with self.assertRaises(NoText) as caught:
                    Desk(rule, other)
                self.assertEqual(caught.exception.row, 0)

    def test_what_is_no_line(self):
        desk = desk_of(crowd(3), SLOW)
        for house in (False, True):
            if house:
                desk.say("begin 0.1")
            for thing in oddities() + [nested(tuple, 29), ("parts",), ["parts"], b"parts", EDGE, desk]:
                self.refuses(desk, thing, NoLine)
            for line in (
                "", " ", "x", "Parts", "PARTS", "parts ", " parts", "parts 0", "part", "parts\n", "parts\t", "parts  ", "\n",
                "sizes", "sizes 0", "sizes 0 5 ", "sizes  0 5", "sizes 0  5", "sizes 0 5 5", "sizes 0 301", "sizes 1 5",
                "sizes 00 5", "sizes 0 05", "sizes 0 -", "sizes 0 x", "sizes -1 5", "sizes 0 -1", "sizes 0.0 5", "size", "size 0",
                "size 0 0", "size 1 5", "size 0 01", "size 0 5 5", "size 0 " + "1" * 31, "size 0 " + "0" * 30, "size 0 -",
                "size 0 1\n", "size 0 " + "9" * 5000, "mirror 0 0", "mirror 0 0 0", "mirror 0 2 4", "mirror 1 0 4",
                "mirror 0 0 4 4", "mirror 0 00 4", "mirror 0 - 4", "mirror 0 0 " + "1" * 31, "ring 0", "ring 0 0", "ring 0 301",
                "ring 1 5", "ring 0 5 5", "ring 0 05", "ring 0 " + "1" * 30, "half 0 0", "half 0 0 0", "half 0 0 301", "half 0 2 5",
                "half 1 0 5", "half 0 0 5 5", "half 0 0 05", "judged 0", "judged ", "why 0", "why ", "reach 0", "reach ", "begin",
                "begin ", "begin 0 1", "begin 0.", "begin .0", "begin 0..1", "begin 00", "begin 0,1", "begin --", "begin x",
                "begin -1", "begin " + "1" * 31, "begin 0.1 ", "put", "put 0", "put 0 0", "put 0 0 0 0", "put 0 0 x", "put x 0 0",
                "put 0 x 0", "put -1 0 0", "put 0 -1 0", "put 00 0 0", "put 0 01 0", "put - 0 0", "put 0 - 0", "put 0 0 0.",
                "put  0 0 0", "put 0 0 0 ", "put " + "1" * 31 + " 0 0", "put 0 0 " + "1" * 31, "back 0", "back ", "marks 0",
                "marks ", "all 0", "all ", "told", "told ", "told -1", "told 00", "told 0 0", "told x", "told -", "told " + "1" * 31,
                "told 1.1", "moved 0", "moved ", "swap 0", "swap ", "size 0 \u0661", "told \u00b2", "begin \uff11", "size\u00a00 1",
            ):
                self.refuses(desk, line, NoLine)

    def test_bounds(self):
        desk = desk_of(plain_rule(4, ((0, 1), (2, 2), (3, 3))), SLOW)
        self.assertEqual(desk.say("parts"), "0.1; 2; 3")
        self.assertEqual(desk.say("size 2 1"), "yes")
        self.refuses(desk, "size 3 1", NoLine)
        self.refuses(desk, "size " + "9" * 30 + " 1", NoLine)
        self.assertEqual(desk.say("sizes 2 300"), " ".join(str(n) for n in range(1, 301)))
        self.assertEqual(desk.say("ring 1 300"), marks_text((2,) * 300))
        self.assertEqual(desk.say("mirror 0 2 2"), "yes")
        self.refuses(desk, "mirror 0 1 2", NoLine)
        self.refuses(desk, "mirror 0 3 2", NoLine)
        self.refuses(desk, "half 0 4 2", NoLine)
        self.assertEqual(desk.say("half 1 1 3"), "2.2")
        self.assertEqual(desk.say("size 0 " + "9" * 30), "no")
        self.assertEqual(desk.say("size 1 1" + "0" * 29), "yes")
        desk.say("swap")
        self.refuses(desk, "size 1 1", NoLine)
        desk = desk_of(no_axes(), SIDED)
        for first in range(5):
            self.refuses(desk, f"mirror 0 {first} 4", NoLine)
            self.refuses(desk, f"half 0 {first} 4", NoLine)
        desk.say("swap")
        self.assertEqual(desk.say("parts"), "0; 1")
        self.refuses(desk, "mirror 0 0 1", NoLine)
        desk = desk_of(NONE, NONE)
        for line in ("sizes 0 5", "size 0 1", "ring 0 1", "mirror 0 0 1", "half 0 0 1"):
            self.refuses(desk, line, NoLine)

    def test_no_house_behind_no_line(self):
        for desk in (desk_of(crowd(3), SLOW), desk_of(SLOW, EDGE), desk_of(NONE, NONE)):
            for line in HOUSE_LINES + ("put 9 9 9", "put 0 0 -", "told " + "9" * 30):
                self.refuses(desk, line, NoHouse)
            for line in ("put 0 0", "back 1", "marks -", "all all", "told", "moved 1", "put 0 0 x"):
                self.refuses(desk, line, NoLine)

    def test_begin_that_is_refused_leaves_the_elder_house(self):
        desk = desk_of(EDGE, SLOW)
        for line in ("begin 0", "begin -", "begin 0.0", "begin 0.1.0", "begin 2.3", "begin " + "9" * 30):
            self.refuses(desk, line, NoRing)
            self.refuses(desk, "marks", NoHouse)
        desk.say("begin 0.1.0.1")
        desk.say("put 0 0 0.1")
        kept = [desk.say(line) for line in ("marks", "all", "moved")]
        for line in ("begin 0", "begin -", "begin 0.0", "begin 0.1.0", "begin 2.3", "begin " + ".".join("01" * 1501)):
            self.refuses(desk, line, NoRing)
            self.assertEqual([desk.say(line) for line in ("marks", "all", "moved")], kept)
        self.assertEqual(desk.say("back"), "done")
        self.assertEqual(desk.say("marks"), "0.1.0.1")
        self.assertEqual(desk.say("begin " + ".".join("01" * 1500)), "done")

    def test_no_looker_ahead_of_no_ring(self):
        desk = desk_of(SLOW, EDGE)
        for line in ("begin -", "begin 9", "begin 3", "reach"):
            self.refuses(desk, line, NoLooker)
        self.refuses(desk, "marks", NoHouse)

    def test_refused_deeds_change_nothing(self):
        desk = desk_of(EDGE, SLOW)
        desk.say("begin 0.1.0.1")
        desk.say("put 2 0 0.1")
        kept = [desk.say(line) for line in ("marks", "all", "moved", "told 3")]
        for line, kind in (
            ("put 7 0 0.1", NoPlace), ("put 0 7 0.1", NoPlace), ("put 3 4 0.1", NoPlace), ("put 7 0 9", NoPlace),
            ("put " + "9" * 30 + " 0 -", NoPlace), ("put 0 0 0", NoRing), ("put 0 6 -", NoRing), ("put 0 0 8.9", NoRing),
            ("put 0 0 " + "9" * 30, NoRing), ("put 1 0 0.1", NoRing), ("put 0 0 " + ".".join("01" * 1498), NoRing),
        ):
            self.refuses(desk, line, kind)
            self.assertEqual([desk.say(line) for line in ("marks", "all", "moved", "told 3")], kept)
        self.assertEqual(desk.say("back"), "done")
        self.refuses(desk, "back", NoBack)
        self.assertEqual(desk.say("marks"), "0.1.0.1")

    def test_refused_lines_change_no_rules(self):
        desk = desk_of(EDGE, SLOW)
        for line in ("swap ", "swap 1", "Swap", None, "reach 0"):
            self.refuses(desk, line, NoLine)
        self.assertEqual(desk.say("parts"), "0.1")
