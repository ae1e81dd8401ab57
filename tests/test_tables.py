"""Point 19: tables; and point 3 (f)."""

import copy
import itertools
import unittest

from ringvouch.errors import TooFar, TooMany
from ringvouch.judging import judged
from ringvouch.looks import shows_paper
from ringvouch.parts import parts
from ringvouch.rings import mirrored
from ringvouch.rules import Rule, one_way_rule, plain_rule
from ringvouch.tables import put_behind, shows_table, table_of, told_by
from tests.samples import (
    Dice, Strange, all_rings, all_rules, all_walks, back_of, chain, closed, crowd, fitting_rules, gaps_alone,
    is_walk, kind_of, looked_at, nested, no_axes, oddities, part_walk, places_alone, small_rules, two_wheels, wheel,
)

EDGE = plain_rule(2, ((0, 1),))
NONE = plain_rule(3, ())
SIDED = one_way_rule(1, ((0, 0),))


def plain_walks(rule, n):
    """All walks of n steps within one part, rising."""
    return [walk for walk in all_walks(rule, n) if any(set(walk) <= set(part) for part in parts(rule))]


def is_plain_table(rule, other, far, told):
    """Whether a dict of a mark for each walk makes a right table, by the words of point 19."""
    if any(told[tuple(back_of(rule, walk))] != other.mirrors[told[walk]] for walk in told):
        return False
    return all((told[walk[:-1]], told[walk[1:]]) in other.steps for walk in plain_walks(rule, 2 * far + 1))


def identity(rule, far):
    """The table that tells the mark itself."""
    return "table", far, tuple((walk, walk[far]) for walk in plain_walks(rule, 2 * far))


def middle_tables(rule):
    """Right tables from a rule to itself of each far that there is one for."""
    return [identity(rule, far) for far in (0, 1, 2)]


class ShowsTableTest(unittest.TestCase):
    def test_right_ones(self):
        for rule in fitting_rules()[::3] + [crowd(3), chain(), gaps_alone(), places_alone()]:
            for table in middle_tables(rule):
                self.assertIs(shows_table(rule, rule, table), True)

    def test_the_greatest(self):
        for far in (0, 1):
            self.assertIs(shows_table(crowd(8), crowd(8), identity(crowd(8), far)), True)
        rows = tuple((walk, 0) for walk in plain_walks(crowd(5), 4))
        self.assertIs(shows_table(crowd(5), crowd(1), ("table", 2, rows)), True)
        self.assertIs(shows_table(crowd(5), EDGE, ("table", 2, rows)), False)

    def test_beside_all_tables_of_few_rows(self):
        right = 0
        for rule in all_rules(2) + [EDGE, SIDED, crowd(2), wheel(3, 1), gaps_alone()]:
            for other in all_rules(2)[::3] + [wheel(3, 0), places_alone()]:
                for far in (0, 1):
                    walks = plain_walks(rule, 2 * far)
                    if other.marks() ** len(walks) > 300:
                        continue
                    for marks in itertools.product(range(other.marks()), repeat=len(walks)):
                        rows = tuple(zip(walks, marks))
                        wanted = is_plain_table(rule, other, far, dict(rows))
                        self.assertIs(shows_table(rule, other, ("table", far, rows)), wanted)
                        right += wanted
        self.assertGreater(right, 100)

    def test_a_rule_without_parts(self):
        for rule in (NONE, Rule((1, 0), ((0, 1),))):
            for far in (0, 1, 2):
                self.assertIs(shows_table(rule, EDGE, ("table", far, ())), True)
                self.assertIs(shows_table(rule, NONE, ("table", far, ())), True)
                self.assertIs(shows_table(rule, EDGE, ("table", far, (((0,), 0),))), False)
                self.assertIs(shows_table(EDGE, EDGE, ("table", far, ())), False)

    def test_walks_that_leave_a_part_have_no_row(self):
        rule = chain()
        table = identity(rule, 1)
        self.assertEqual([walk for walk, mark in table[2]], [(0, 0, 0), (2, 2, 2), (3, 3, 3), (5, 5, 5)])
        self.assertTrue(shows_table(rule, rule, table))
        leaving = tuple(sorted(table[2] + (((0, 0, 1), 0),)))
        self.assertFalse(shows_table(rule, rule, ("table", 1, leaving)))

    def test_of_things_of_any_kind(self):
        for thing in oddities():
            for rule in (EDGE, NONE):
                self.assertIs(shows_table(rule, EDGE, thing), False)
                self.assertIs(shows_table(rule, EDGE, ("table", thing, ())), thing_is_far(thing) and rule is NONE)
                self.assertIs(shows_table(rule, EDGE, ("table", 0, thing)), rule is NONE and is_empty(thing))
                self.assertIs(shows_table(rule, EDGE, (thing, 0, ())), False)
            self.assertIs(shows_table(crowd(1), crowd(1), ("table", 0, (thing,))), False)
            self.assertIs(shows_table(crowd(1), crowd(1), ("table", 0, ((thing, 0),))), False)
            self.assertIs(shows_table(crowd(1), crowd(1), ("table", 0, (((thing,), 0),))), thing_is(thing, 0))
            self.assertIs(shows_table(crowd(1), crowd(1), ("table", 0, (((0,), thing),))), thing_is(thing, 0))

    def test_with_one_thing_otherwise(self):
        rule = crowd(2)
        for far in (0, 1, 2):
            table = identity(rule, far)
            rows = table[2]
            first, last = rows[0], rows[-1]
            self.assertTrue(shows_table(rule, rule, table))
            for other in (
                ("table", far, rows[1:]), ("table", far, rows[:-1]), ("table", far, rows + rows[-1:]),
                ("table", far, rows[:1] + rows), ("table", far, rows[::-1]), ("table", far, rows[1:] + rows[:1]),
                ("table", far, rows + (((2,) * (2 * far + 1), 0),)), ("table", far, ((first[0], 2),) + rows[1:]),
                ("table", far, ((first[0], -1),) + rows[1:]), ("table", far, ((first[0], None),) + rows[1:]),
                ("table", far, ((first[0], False),) + rows[1:]), ("table", far, ((first[0], "0"),) + rows[1:]),
                ("table", far, ((first[0], [0]),) + rows[1:]), ("table", far, ((first[0], (0,)),) + rows[1:]),
                ("table", far, ((list(first[0]), 0),) + rows[1:]), ("table", far, ([first[0], 0],) + rows[1:]),
                ("table", far, (((False,) * (2 * far + 1), 0),) + rows[1:]), ("table", far, list(rows)),
                ("table", far, (first + (0,),) + rows[1:]), ("table", far, ((first[0],),) + rows[1:]),
                ("table", far, rows[:-1] + ((last[0], Strange()),)), ("table", far, rows[:-1] + (Strange(),)),
                ("table", far, rows[:-1] + (nested(tuple, 27),)), ("table", far, rows[:-1] + ((nested(list, 27), 1),)),
                ("table", far, dict(rows)), ("table", far, None), ["table", far, rows], ("table", far), (far, rows),
                ("table", far, rows, ()), ("tables", far, rows), ("", far, rows), (b"table", far, rows),
                (None, far, rows), (True, far, rows), ("table", str(far), rows), ("table", None, rows),
                ("table", (far,), rows), ("table", far + 1, rows), ("table", -1, rows), ("table", 3, rows),
                ("table", 10 ** 29, rows), table + ("",),
            ):
                self.assertIs(shows_table(rule, rule, other), False, other)
        self.assertIs(shows_table(EDGE, EDGE, identity(EDGE, 2)), True)
        self.assertIs(shows_table(EDGE, EDGE, identity(EDGE, 3)), False)
        self.assertIs(shows_table(NONE, NONE, ("table", 3, ())), False)
        self.assertIs(shows_table(rule, rule, ("table", True, identity(rule, 1)[2])), False)
        self.assertIs(shows_table(rule, rule, ("table", False, identity(rule, 0)[2])), False)

    def test_a_told_mark_that_may_not_stand_there(self):
        table = ("table", 0, (((0,), 1), ((1,), 0)))
        self.assertTrue(shows_table(EDGE, EDGE, table))
        self.assertFalse(shows_table(EDGE, EDGE, ("table", 0, (((0,), 1), ((1,), 1)))))
        self.assertFalse(shows_table(crowd(2), EDGE, table))
        loops = plain_rule(2, ((0, 0), (1, 1)))
        self.assertFalse(shows_table(EDGE, loops, table))
        self.assertTrue(shows_table(loops, loops, table))

    def test_read_back_marks_tell_mirrors(self):
        both_ways = Rule((1, 0), ((0, 0), (0, 1), (1, 0), (1, 1)))
        self.assertTrue(shows_table(both_ways, both_ways, ("table", 0, (((0,), 1), ((1,), 0)))))
        self.assertFalse(shows_table(both_ways, both_ways, ("table", 0, (((0,), 1), ((1,), 1)))))
        rows = tuple((walk, walk[0]) for walk in plain_walks(crowd(2), 2))
        self.assertFalse(shows_table(crowd(2), crowd(2), ("table", 1, rows)))

    def test_by_names_again_and_unchanged(self):
        table = identity(crowd(2), 1)
        kept = copy.deepcopy(table)
        self.assertTrue(shows_table(thing=table, other=crowd(2), rule=crowd(2)))
        self.assertTrue(shows_table(crowd(2), crowd(2), table))
        self.assertEqual(table, kept)


def thing_is(thing, number):
    return type(thing) is int and thing == number


def thing_is_far(thing):
    return type(thing) is int and 0 <= thing <= 2


def is_empty(thing):
    return type(thing) is tuple and len(thing) == 0


class ToldByTest(unittest.TestCase):
    def plain_told(self, table, marks):
        word, far, rows = table
        told = dict(rows)
        return tuple(told[looked_at(marks, place - far, 2 * far + 1)] for place in range(len(marks)))

    def test_beside_a_plain_look(self):
        for rule, other in ((crowd(2), crowd(3)), (gaps_alone(), crowd(2)), (EDGE, wheel(2, 0)), (SIDED, crowd(2))):
            for far in (0, 1, 2):
                try:
                    table = table_of(rule, other, far)
                except TooMany:
                    continue
                if table is not None:
                    for n in range(1, 8):
                        for marks in all_rings(rule, n):
                            told = told_by(table, ((1, marks),))
                            self.assertEqual(told, self.plain_told(table, marks))
                            self.assertTrue(is_walk(other, told + told[:1]))
                            back = told_by(table, mirrored(rule, ((1, marks),)))
                            self.assertEqual(list(back), back_of(other, told))

    def test_rings_of_runs(self):
        dice = Dice(41)
        rule = two_wheels(2, 3)
        for far in (0, 1, 2):
            table = identity(rule, far)
            marks = tuple(closed(rule, part_walk(rule, 0, 200, dice)))
            self.assertEqual(told_by(table, ((3, marks),)), marks * 3)
            self.assertEqual(told_by(table, ((5, (0, 1)), (2, (0, 2, 3)))), (0, 1) * 5 + (0, 2, 3) * 2)

    def test_many_and_too_many(self):
        table = identity(crowd(2), 2)
        self.assertEqual(told_by(table, ((1500, (0, 1)),)), (0, 1) * 1500)
        for ring in (((1500, (0, 1)), (1, (1,))), ((3001, (0,)),), ((10 ** 29, (0,)),)):
            with self.assertRaises(TooMany) as caught:
                told_by(table, ring)
            self.assertIs(type(caught.exception), TooMany)

    def test_by_names(self):
        table = identity(EDGE, 1)
        self.assertEqual(told_by(ring=((2, (0, 1)),), table=table), (0, 1, 0, 1))


class TableOfTest(unittest.TestCase):
    def there_is_one(self, rule, other, far):
        """Whether there is a right table, by a search of all of them."""
        walks = plain_walks(rule, 2 * far)
        every = itertools.product(range(other.marks()), repeat=len(walks))
        return any(is_plain_table(rule, other, far, dict(zip(walks, marks))) for marks in every)

    def test_beside_a_search_of_all_tables(self):
        seen = set()
        for rule in small_rules()[::5] + [EDGE, SIDED, wheel(4, 1), no_axes()]:
            for other in all_rules(2)[::2] + [wheel(3, 0), wheel(4, 1), places_alone()]:
                for far in (0, 1, 2):
                    if other.marks() ** len(plain_walks(rule, 2 * far)) <= 260:
                        table = table_of(rule, other, far)
                        wanted = self.there_is_one(rule, other, far)
                        self.assertEqual(table is not None, wanted)
                        self.assertTrue(not wanted or judged(rule, other)[0] == "plan")
                        seen.add((far, wanted))
                        if table is not None:
                            self.is_right(rule, other, far, table)
        self.assertEqual(len(seen), 6)

    def is_right(self, rule, other, far, table):
        self.assertEqual(table[:2], ("table", far))
        self.assertEqual(kind_of(table), (str, int, (((int,) * (2 * far + 1), int),) * len(table[2])))
        self.assertIs(shows_table(rule, other, table), True)

    def test_where_there_is_a_table_there_is_a_plan(self):
        rules = fitting_rules()
        found = [0, 0]
        for at, rule in enumerate(rules):
            for other in rules[at % 3::3]:
                word, thing = judged(rule, other)
                for far in (0, 1, 2):
                    if len(plain_walks(rule, 2 * far)) <= 27:
                        table = table_of(rule, other, far)
                        if table is None:
                            found[0] += 1
                        else:
                            found[1] += 1
                            self.is_right(rule, other, far, table)
                            self.assertEqual(word, "plan")
                if word == "none":
                    self.assertTrue(shows_paper(rule, other, thing))
        self.assertGreater(min(found), 100)

    def test_a_farther_look_finds_more(self):
        rule = Rule((1, 0, 2), ((0, 1), (0, 2), (1, 2), (2, 0), (2, 1)))
        other = Rule((0, 3, 4, 1, 2), (
            (0, 1), (0, 2), (0, 3), (1, 0), (1, 2), (2, 4), (3, 0), (3, 2), (4, 0), (4, 1), (4, 3),
        ))
        self.assertEqual([table_of(rule, other, far) is not None for far in (0, 1, 2)], [False, True, True])
        rule = Rule((3, 2, 1, 0), ((0, 1), (0, 3), (1, 2), (2, 0), (2, 3), (3, 1)))
        other = Rule((3, 1, 4, 0, 2), ((0, 1), (0, 3), (1, 3), (2, 0), (2, 2), (3, 4), (4, 2), (4, 4)))
        self.assertEqual([table_of(rule, other, far) is not None for far in (0, 1, 2)], [False, False, True])
        self.is_right(rule, other, 2, table_of(rule, other, 2))

    def test_rows_to_27(self):
        self.assertIsNotNone(table_of(crowd(3), crowd(3), 1))
        self.assertIsNotNone(table_of(crowd(3), crowd(1), 1))
        self.assertIsNone(table_of(crowd(3), EDGE, 1))
        self.assertEqual(len(table_of(crowd(3), crowd(8), 1)[2]), 27)
        for rule, far in ((crowd(4), 1), (crowd(2), 2), (crowd(3), 2), (crowd(8), 2), (crowd(8), 1)):
            many = len(rule.mirrors) ** (2 * far + 1)
            if many <= 27:
                self.assertIsNotNone(table_of(rule, rule, far))
                continue
            for other in (rule, EDGE, NONE):
                with self.assertRaises(TooMany) as caught:
                    table_of(rule, other, far)
                self.assertIs(type(caught.exception), TooMany)

    def test_just_above_27_rows(self):
        rule = Rule((1, 0, 2, 4, 3), ((0, 3), (0, 4), (1, 2), (2, 0), (2, 3), (3, 1), (4, 1), (4, 2)))
        self.assertEqual(len(plain_walks(rule, 4)), 27)
        self.is_right(rule, rule, 2, table_of(rule, rule, 2))
        self.assertIsNone(table_of(rule, EDGE, 2))
        rule = Rule((4, 1, 3, 2, 0), ((0, 1), (0, 3), (1, 3), (1, 4), (2, 1), (2, 4), (3, 0), (4, 2)))
        self.assertEqual(len(plain_walks(rule, 4)), 28)
        for other in (rule, crowd(1), EDGE, NONE):
            with self.assertRaises(TooMany):
                table_of(rule, other, 2)
        self.is_right(rule, rule, 1, table_of(rule, rule, 1))

    def test_no_rows(self):
        for far in (0, 1, 2):
            self.assertEqual(table_of(NONE, EDGE, far), ("table", far, ()))
            self.assertIsNone(table_of(EDGE, NONE, far))

    def test_again_and_by_names(self):
        self.assertEqual(table_of(crowd(3), crowd(2), 1), table_of(far=1, other=crowd(2), rule=crowd(3)))


class PutBehindTest(unittest.TestCase):
    def test_tells_what_the_second_tells_of_what_the_first_tells(self):
        trio = (
            (crowd(2), crowd(3), crowd(2)), (gaps_alone(), crowd(2), places_alone()), (EDGE, crowd(2), crowd(3)),
            (SIDED, crowd(2), crowd(2)), (chain(), chain(), SIDED), (wheel(4, 1), wheel(4, 1), wheel(2, 1)),
        )
        tried = 0
        for rule, middle, other in trio:
            for one, two in ((0, 0), (0, 1), (1, 0), (1, 1), (0, 2), (2, 0)):
                try:
                    first, second = table_of(rule, middle, one), table_of(middle, other, two)
                except TooMany:
                    continue
                if first is None or second is None:
                    continue
                table = put_behind(rule, first, second)
                self.assertEqual(table[1], one + two)
                self.assertIs(shows_table(rule, other, table), True)
                for n in range(1, 7):
                    for marks in all_rings(rule, n):
                        middle_marks = told_by(first, ((1, marks),))
                        wanted = told_by(second, ((1, middle_marks),))
                        self.assertEqual(told_by(table, ((1, marks),)), wanted)
                tried += 1
        self.assertGreater(tried, 15)

    def test_marks_that_move(self):
        # What stands to either side is put together, so that the order of the two counts.
        spread = tuple((walk, max(walk)) for walk in plain_walks(crowd(3), 2))
        swap = tuple((walk, 2 - walk[0]) for walk in plain_walks(crowd(3), 0))
        one, two = ("table", 1, spread), ("table", 0, swap)
        least = tuple((walk, 2 - max(walk)) for walk in plain_walks(crowd(3), 2))
        self.assertEqual(put_behind(crowd(3), one, two), ("table", 1, least))
        other = tuple((walk, 2 - min(walk)) for walk in plain_walks(crowd(3), 2))
        self.assertEqual(put_behind(crowd(3), two, one), ("table", 1, other))
        wide = tuple((walk, max(walk)) for walk in plain_walks(crowd(3), 4))
        self.assertEqual(put_behind(crowd(3), one, one), ("table", 2, wide))

    def test_too_far(self):
        tables = middle_tables(crowd(2))
        for one, two in itertools.product(range(3), repeat=2):
            if one + two <= 2:
                self.assertEqual(put_behind(crowd(2), tables[one], tables[two]), tables[one + two])
                continue
            with self.assertRaises(TooFar) as caught:
                put_behind(crowd(2), tables[one], tables[two])
            self.assertIs(type(caught.exception), TooFar)

    def test_by_names_and_unchanged(self):
        first, second = identity(EDGE, 1), identity(EDGE, 0)
        kept = copy.deepcopy((first, second))
        self.assertEqual(put_behind(second=second, first=first, rule=EDGE), first)
        self.assertEqual((first, second), kept)
