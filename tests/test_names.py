"""Point 15: names."""

import itertools
import unittest

from ringvouch.names import is_centre, is_tame, least_period, least_turn, lesser, read_back
from ringvouch.rules import one_way_rule, plain_rule
from tests.samples import crowd, small_rules, wheel

SWAPPED = one_way_rule(2, ((0, 1), (1, 0)))
MIXED = wheel(3, 0)


def rows(most, marks=2):
    """All tuples of one to most marks."""
    return [row for many in range(1, most + 1) for row in itertools.product(range(marks), repeat=many)]


def plain_period(row):
    """The least period by trying each."""
    many = len(row)
    return next(p for p in range(1, many + 1) if all(row[at] == row[at + p] for at in range(many - p)))


def turns(row):
    """All that comes of a row by turning it."""
    return [row[at:] + row[:at] for at in range(len(row))]


def unlike_rows():
    """Rows of some six hundred marks, with and without a short period."""
    fibonacci = [(0,), (0, 1)]
    while len(fibonacci[-1]) < 600:
        fibonacci.append(fibonacci[-1] + fibonacci[-2])
    yield fibonacci[-1][:600]
    yield (0,) * 599 + (1,)
    yield (1,) + (0,) * 599
    yield (0, 1, 1, 0, 2) * 121
    yield (0, 1, 1, 0, 2) * 120 + (0, 1, 1)
    yield (3,) * 601
    yield tuple(at * at % 7 for at in range(600))
    yield tuple(at * at * at // 3 % 8 for at in range(611))


class LeastPeriodTest(unittest.TestCase):
    def test_one_mark(self):
        self.assertEqual([least_period((mark,)) for mark in range(8)], [1] * 8)

    def test_one_mark_again_and_again(self):
        for many in range(1, 20):
            self.assertEqual(least_period((5,) * many), 1)

    def test_every_short_row(self):
        for row in rows(9) + rows(6, 3):
            self.assertEqual(least_period(row), plain_period(row))

    def test_a_power_and_a_beginning_behind_it(self):
        row = (0, 1, 0, 0, 2, 1, 0)
        for times in range(2, 6):
            for more in range(len(row)):
                self.assertEqual(least_period(row * times + row[:more]), 7)

    def test_a_power_with_one_mark_otherwise(self):
        row = (0, 1, 2) * 6
        for at in range(len(row)):
            other = row[:at] + (7,) + row[at + 1:]
            self.assertEqual(least_period(other), plain_period(other))
            self.assertGreater(least_period(other), 3)

    def test_it_need_not_part_how_many_there_are(self):
        self.assertEqual(least_period((0, 1, 0)), 2)
        self.assertEqual(least_period((0, 1, 0, 0, 1)), 3)
        self.assertEqual(least_period((0, 1, 2, 0)), 3)

    def test_at_most_how_many_there_are(self):
        self.assertEqual(least_period((0, 0, 0, 1)), 4)
        self.assertEqual(least_period((0, 1)), 2)

    def test_some_six_hundred(self):
        for row in unlike_rows():
            self.assertEqual(least_period(row), plain_period(row))


class LeastTurnTest(unittest.TestCase):
    def test_every_short_row(self):
        for row in rows(8) + rows(5, 3):
            self.assertEqual(least_turn(row), min(turns(row)))

    def test_alike_for_every_turn(self):
        for row in ((2, 0, 1, 0, 0, 1), (3,), (1, 1, 0), (0, 1) * 4, (0, 0, 1, 0, 1), (7, 6, 5, 4, 3, 2, 1, 0)):
            self.assertEqual({least_turn(turn) for turn in turns(row)}, {min(turns(row))})

    def test_powers(self):
        self.assertEqual(least_turn((1, 0, 2) * 3), (0, 2, 1) * 3)
        self.assertEqual(least_turn((4,) * 9), (4,) * 9)
        self.assertEqual(least_turn((1, 0, 2) * 3 + (1, 0)), (0, 1, 0, 2, 1, 0, 2, 1, 0, 2, 1))

    def test_a_tuple_of_as_many(self):
        self.assertEqual(least_turn((2,)), (2,))
        self.assertIsInstance(least_turn((1, 0)), tuple)

    def test_some_six_hundred(self):
        for row in unlike_rows():
            wanted = min(turns(row))
            for turn in turns(row)[::97]:
                self.assertEqual(least_turn(turn), wanted)


class ReadBackTest(unittest.TestCase):
    def test_mirrors_from_behind(self):
        self.assertEqual(read_back(plain_rule(3, ()), (0, 1, 1, 2)), (2, 1, 1, 0))
        self.assertEqual(read_back(SWAPPED, (0, 1, 1, 2)), (0, 3, 3, 2))
        self.assertEqual(read_back(MIXED, (0, 1, 1, 2)), (1, 2, 2, 0))

    def test_the_empty_row_and_one_mark(self):
        for rule in (SWAPPED, MIXED, crowd(3)):
            self.assertEqual(read_back(rule, ()), ())
            for mark in range(3):
                self.assertEqual(read_back(rule, (mark,)), (rule.mirrors[mark],))

    def test_twice_is_as_it_was(self):
        for rule in small_rules()[-9:]:
            for row in rows(4, 3):
                back = read_back(rule, row)
                self.assertEqual(len(back), len(row))
                self.assertTrue(all(back[-1 - at] == rule.mirrors[mark] for at, mark in enumerate(row)))
                self.assertEqual(read_back(rule, back), row)


class LesserTest(unittest.TestCase):
    def test_the_lesser_of_both(self):
        for rule in (SWAPPED, MIXED, crowd(3)):
            for row in rows(5, 3):
                back = tuple(rule.mirrors[mark] for mark in reversed(row))
                self.assertEqual(lesser(rule, row), row if row < back else back)
                self.assertEqual(lesser(rule, back), lesser(rule, row))

    def test_some(self):
        self.assertEqual(lesser(crowd(3), (2, 1, 0)), (0, 1, 2))
        self.assertEqual(lesser(crowd(3), (0, 1, 2)), (0, 1, 2))
        self.assertEqual(lesser(SWAPPED, (2, 1)), (2, 1))
        self.assertEqual(lesser(SWAPPED, (3, 0)), (2, 1))
        self.assertEqual(lesser(SWAPPED, ()), ())
        self.assertEqual(lesser(SWAPPED, (2,)), (0,))
        self.assertEqual(lesser(SWAPPED, (0,)), (0,))


class IsTameTest(unittest.TestCase):
    def test_just_at_and_just_above_twice_the_span(self):
        for span in (1, 2, 3, 10, 50):
            many = 8 * span + 1
            for p in range(1, 2 * span + 3):
                row = (((0,) * (p - 1) + (1,)) * many)[:many]
                self.assertEqual(plain_period(row), p)
                self.assertIs(is_tame(span, row), p <= 2 * span)

    def test_no_period_at_all(self):
        for span in (1, 4, 50):
            self.assertIs(is_tame(span, (1,) + (0,) * (8 * span)), False)
            self.assertIs(is_tame(span, (0,) * (8 * span) + (1,)), False)
            self.assertIs(is_tame(span, (0,) * (8 * span + 1)), True)

    def test_all_rows_of_span_one(self):
        for row in itertools.product(range(2), repeat=9):
            self.assertIs(is_tame(1, row), plain_period(row) <= 2)


class IsCentreTest(unittest.TestCase):
    def test_the_empty_row_and_one_mark(self):
        self.assertIs(is_centre(SWAPPED, ()), True)
        self.assertIs(is_centre(crowd(2), ()), True)
        self.assertEqual([is_centre(SWAPPED, (mark,)) for mark in range(4)], [False] * 4)
        self.assertEqual([is_centre(MIXED, (mark,)) for mark in range(3)], [True, False, False])
        self.assertIs(is_centre(crowd(2), (1,)), True)

    def test_about_a_place_and_about_a_gap(self):
        self.assertIs(is_centre(crowd(3), (0, 2, 1, 2, 0)), True)
        self.assertIs(is_centre(crowd(3), (0, 2, 2, 0)), True)
        self.assertIs(is_centre(crowd(3), (0, 2, 1, 0)), False)
        self.assertIs(is_centre(MIXED, (1, 2, 0, 1, 2)), True)
        self.assertIs(is_centre(MIXED, (1, 2, 1, 1, 2)), False)
        self.assertIs(is_centre(MIXED, (0, 1, 2, 0)), True)
        self.assertIs(is_centre(SWAPPED, (0, 1, 3, 2)), True)
        self.assertIs(is_centre(SWAPPED, (0, 1, 1, 0)), False)
        self.assertIs(is_centre(SWAPPED, (0, 1, 1, 3, 2)), False)

    def test_every_short_row(self):
        for rule in (SWAPPED, MIXED, crowd(3)):
            for row in rows(5, 3):
                pairs = zip(row, reversed(row))
                self.assertIs(is_centre(rule, row), all(rule.mirrors[a] == b for a, b in pairs))


class CallsTest(unittest.TestCase):
    def test_arguments_by_name_and_the_same_again(self):
        row = (2, 0, 1)
        for _ in range(2):
            self.assertEqual(least_period(marks=row), 3)
            self.assertEqual(least_turn(marks=row), (0, 1, 2))
            self.assertEqual(read_back(marks=row, rule=MIXED), (2, 0, 1))
            self.assertEqual(lesser(marks=row, rule=crowd(3)), (1, 0, 2))
            self.assertIs(is_tame(marks=(0, 1) * 4 + (0,), span=1), True)
            self.assertIs(is_centre(marks=row, rule=MIXED), True)
        self.assertEqual(row, (2, 0, 1))
        self.assertEqual(MIXED, wheel(3, 0))
