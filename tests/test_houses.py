"""Point 21: a house; and point 3 (d) and (h), as far as a house goes."""

import copy
import unittest

from ringvouch.errors import NoBack, NoLooker, NoPlace, NoPlan, NoRing
from ringvouch.houses import House
from ringvouch.lookers import Looker
from ringvouch.names import read_back
from ringvouch.rules import one_way_rule, plain_rule
from tests.samples import Dice, Strange, crowd, gaps_alone, is_walk, nested, oddities, two_wheels, wheel

EDGE = plain_rule(2, ((0, 1),))
NONE = plain_rule(3, ())
SIDED = one_way_rule(2, ((0, 0), (0, 1), (1, 0)))
SLOW = plain_rule(4, ((0, 1), (1, 2), (2, 3), (3, 3)))
FIRST = (0, 1, 1, 2, 0, 2)


def plain_moved(looker, elder, at, out, marks):
    """How far the put moved what is told, by laying one ring beside the other, place by place."""
    now = elder[:at] + marks + elder[at + out:]
    was_told = looker.told_all(((1, elder),))
    is_told = looker.told_all(((1, now),))
    # Of each place that stayed: where it was, where it is.
    stayed = [(place, place) for place in range(at)]
    stayed += [(place, place - out + len(marks)) for place in range(at + out, len(elder))]
    n = len(now)
    far = 0
    for was, place in stayed:
        if was_told[was] != is_told[place]:
            if marks:
                put_places = range(at, at + len(marks))
                off = min(min((place - other) % n, (other - place) % n) for other in put_places)
            else:
                # The marks would be in the gap ahead of place at.
                off = min((place - at) % n + 1, (at - 1 - place) % n + 1)
            far = max(far, off)
    return far


class HouseTest(unittest.TestCase):
    def is_as_made_anew(self, house, looker, marks, deeds):
        self.assertEqual(house.marks(), marks)
        self.assertIs(type(house.marks()), tuple)
        self.assertEqual(house.deeds(), deeds)
        told = looker.told_all(((1, marks),))
        self.assertEqual(house.told_all(), told)
        for place in (0, len(marks) // 2, len(marks) - 1, -1, -len(marks) - 1, 10 ** 29, -10 ** 29, len(marks)):
            self.assertEqual(house.told(place), told[place % len(marks)])

    def good_put(self, rule, marks, dice):
        """A put by which the ring is one of the rule again."""
        while True:
            at = dice.below(len(marks) + 1)
            out = dice.below(min(6, len(marks) - at + 1))
            fresh = tuple(dice.below(rule.marks()) for _ in range(dice.below(7)))
            coming = marks[:at] + fresh + marks[at + out:]
            if coming and is_walk(rule, coming + coming[:1]):
                return at, out, fresh

    def test_behind_each_of_many_puts_and_backs(self):
        dice = Dice(61)
        for rule, other, first in (
            (crowd(3), SLOW, FIRST), (crowd(2), crowd(2), (0,)), (SIDED, SIDED, (0, 1, 0)), (crowd(3), crowd(2), FIRST),
            (gaps_alone(), gaps_alone(), (0, 1)), (two_wheels(2, 3), two_wheels(2, 3), (0, 1)),
        ):
            looker = Looker(rule, other)
            house = House(rule, other, first)
            rings, puts = [first], []
            self.is_as_made_anew(house, looker, first, 0)
            for _ in range(40):
                if puts and dice.below(3) == 0:
                    self.assertIsNone(house.back())
                    rings.pop()
                    puts.pop()
                else:
                    at, out, marks = self.good_put(rule, rings[-1], dice)
                    self.assertIsNone(house.put(at, out, marks))
                    rings.append(rings[-1][:at] + marks + rings[-1][at + out:])
                    puts.append((at, out, marks))
                self.is_as_made_anew(house, looker, rings[-1], len(puts))
                wanted = plain_moved(looker, rings[-2], *puts[-1]) if puts else 0
                self.assertEqual(house.moved(), wanted)
                self.assertLessEqual(house.moved(), looker.reach())
            while puts:
                house.back()
                rings.pop()
                puts.pop()
                self.is_as_made_anew(house, looker, rings[-1], len(puts))
            self.assertEqual(house.marks(), first)
            with self.assertRaises(NoBack) as caught:
                house.back()
            self.assertIs(type(caught.exception), NoBack)
            self.is_as_made_anew(house, looker, first, 0)

    def test_puts_at_the_edges(self):
        looker = Looker(crowd(3), SLOW)
        for at, out, marks, wanted in (
            (0, 0, (2,), (2,) + FIRST), (6, 0, (2, 2), FIRST + (2, 2)), (0, 1, (), FIRST[1:]), (5, 1, (), FIRST[:-1]),
            (0, 6, (1,), (1,)), (0, 0, (), FIRST), (6, 0, (), FIRST), (3, 0, (), FIRST), (2, 3, (0,), (0, 1, 0, 2)),
            (0, 5, (), (2,)), (1, 5, (), (0,)), (5, 1, (1, 2, 0), FIRST[:-1] + (1, 2, 0)), (0, 6, FIRST * 500, FIRST * 500),
        ):
            house = House(crowd(3), SLOW, FIRST)
            self.assertIsNone(house.put(at, out, marks))
            self.is_as_made_anew(house, looker, wanted, 1)
            self.assertIsNone(house.back())
            self.is_as_made_anew(house, looker, FIRST, 0)

    def test_one_and_three_thousand_places(self):
        house = House(crowd(3), SLOW, (0,))
        house.put(1, 0, (1,) * 2999)
        self.assertEqual(len(house.marks()), 3000)
        self.assertEqual(len(house.told_all()), 3000)
        for at, out, marks in ((0, 0, (1,)), (3000, 0, (0,)), (7, 1, (1, 1)), (0, 3000, ()), (0, 3000, (1,) * 3001)):
            with self.assertRaises(NoRing) as caught:
                house.put(at, out, marks)
            self.assertIs(type(caught.exception), NoRing)
        self.assertEqual((len(house.marks()), house.deeds()), (3000, 1))
        house.put(7, 1, (2,))
        house.put(0, 2999, ())
        self.assertEqual(house.marks(), (1,))
        house.back()
        self.assertEqual(house.marks(), (0,) + (1,) * 6 + (2,) + (1,) * 2992)
        self.assertEqual(House(crowd(3), SLOW, (1,) * 3000).marks(), (1,) * 3000)

    def test_by_names(self):
        house = House(marks=FIRST, other=SLOW, rule=crowd(3))
        house.put(marks=(2, 2), out=1, at=3)
        self.assertEqual(house.marks(), (0, 1, 1, 2, 2, 0, 2))
        self.assertEqual(house.told(place=4), house.told(4))
        with self.assertRaises(TypeError):
            House(EDGE, EDGE, (0, 1), ((0, 1),))
        self.assertEqual(House(EDGE, EDGE, (0, 1), plan=((0, 1),)).told_all(), (1, 0))
        self.assertEqual(House(EDGE, EDGE, (0, 1), plan=((0, 0),)).told_all(), (0, 1))

    def test_what_is_handed_in_stays(self):
        marks, more = (0, 1, 2), (2, 1)
        kept = copy.deepcopy((marks, more))
        house = House(crowd(3), SLOW, marks)
        house.put(1, 1, more)
        house.back()
        self.assertEqual((marks, more), kept)

    def test_two_houses_are_two(self):
        one, two = House(crowd(3), SLOW, FIRST), House(crowd(3), SLOW, FIRST)
        one.put(0, 1, (1,))
        self.assertEqual((two.marks(), two.deeds()), (FIRST, 0))


class MovedTest(unittest.TestCase):
    def test_nothing_moved(self):
        house = House(crowd(3), SLOW, FIRST)
        self.assertEqual(house.moved(), 0)
        house.put(2, 0, ())
        self.assertEqual(house.moved(), 0)
        house.put(0, 6, (1, 2))
        self.assertEqual(house.moved(), 0)
        house.back()
        house.back()
        self.assertEqual(house.moved(), 0)

    def test_a_looker_that_tells_marks_by_class(self):
        # Of a wheel of 2 each mark is told by its class alone: two marks more move nothing.
        house = House(EDGE, EDGE, (0, 1) * 10)
        house.put(4, 0, (0, 1))
        self.assertEqual(house.moved(), 0)

    def test_beside_a_plain_laying(self):
        dice = Dice(62)
        looker = Looker(crowd(3), SLOW)
        seen = set()
        for _ in range(60):
            n = 1 + dice.below(240)
            if dice.below(2):
                elder = ((0, 1, 1) * n)[:n]
            else:
                elder = tuple(dice.below(3) for _ in range(n))
            at = dice.below(n + 1)
            out = dice.below(min(4, n - at + 1))
            marks = tuple(dice.below(3) for _ in range(dice.below(4)))
            if out == n and not marks:
                continue
            house = House(crowd(3), SLOW, elder)
            house.put(at, out, marks)
            wanted = plain_moved(looker, elder, at, out, marks)
            self.assertEqual(house.moved(), wanted)
            self.assertLessEqual(wanted, looker.reach())
            seen.add(wanted)
            house.put(0, 0, ())
            self.assertEqual(house.moved(), 0)
            house.back()
            self.assertEqual(house.moved(), wanted)
        self.assertGreater(len(seen), 10)

    def test_taking_out_alone(self):
        dice = Dice(63)
        looker = Looker(crowd(3), SLOW)
        moved = []
        for at in range(0, 60, 7):
            elder = (0, 1) * 20 + tuple(dice.below(3) for _ in range(20))
            house = House(crowd(3), SLOW, elder)
            house.put(at, 1, ())
            moved.append(house.moved())
            self.assertEqual(moved[-1], plain_moved(looker, elder, at, 1, ()))
        self.assertGreater(max(moved), 1)

    def test_never_farther_than_the_reach(self):
        for rule, other in ((crowd(3), crowd(2)), (SIDED, SIDED), (gaps_alone(), gaps_alone()), (crowd(3), SLOW)):
            looker = Looker(rule, other)
            far = looker.reach()
            for cycle in ((0,), (0, 0, 1, 0)):
                if not is_walk(rule, cycle + cycle[:1]):
                    continue
                elder = (cycle * (4 * far))[:2800]
                house = House(rule, other, elder)
                at = len(elder) // 2
                house.put(at, 0, (0, 0, 0, 1, 0) if elder[at - 1] == 0 else (0, 0))
                now, then = house.told_all(), looker.told_all(((1, elder),))
                many = len(house.marks()) - len(elder)
                beyond = 0
                for place in range(len(elder)):
                    fresh = place if place < at else place + many
                    off = min((fresh - at - many) % len(now) + 1, (at - 1 - fresh) % len(now) + 1)
                    if off > far:
                        self.assertEqual(now[fresh], then[place])
                        beyond += 1
                self.assertGreater(beyond, far)
                self.assertLessEqual(house.moved(), far)


class SidesTest(unittest.TestCase):
    def test_read_from_the_other_side_and_turned(self):
        dice = Dice(65)
        for rule, other in ((crowd(3), SLOW), (gaps_alone(), gaps_alone()), (SIDED, SIDED)):
            first = (0, 0, 0)
            house = House(rule, other, first)
            back = House(rule, other, read_back(rule, first))
            by = 2
            turned_house = House(rule, other, first[by:] + first[:by])
            for _ in range(15):
                marks = house.marks()
                n = len(marks)
                at = by + dice.below(n - by + 1)
                out = dice.below(min(3, n - at + 1))
                fresh = tuple(dice.below(2) for _ in range(dice.below(5)))
                coming = marks[:at] + fresh + marks[at + out:]
                if len(coming) < 3 or not is_walk(rule, coming + coming[:1]):
                    continue
                house.put(at, out, fresh)
                back.put(n - at - out, out, read_back(rule, fresh))
                turned_house.put(at - by, out, fresh)
                self.assertEqual(back.marks(), read_back(rule, house.marks()))
                self.assertEqual(back.told_all(), read_back(other, house.told_all()))
                self.assertEqual(back.moved(), house.moved())
                self.assertEqual(turned_house.marks(), coming[by:] + coming[:by])
                told = house.told_all()
                self.assertEqual(turned_house.told_all(), told[by:] + told[:by])
                self.assertEqual(turned_house.moved(), house.moved())
            self.assertGreater(house.deeds(), 2)


class RefusalsTest(unittest.TestCase):
    def test_refused_as_looker_is_ahead_of_no_ring(self):
        for marks in ((0, 1), (0,), (), None, Strange()):
            with self.assertRaises(NoLooker):
                House(EDGE, NONE, marks)
            with self.assertRaises(NoPlan):
                House(EDGE, EDGE, marks, plan=((1, 0),))
            with self.assertRaises(NoPlan):
                House(EDGE, NONE, marks, plan=[])

    def test_no_ring_at_the_beginning(self):
        for thing in oddities() + [
            (0, 0), (0,), (0, 1, 0), (0, 2), [0, 1], ((0, 1),), ((1, (0, 1)),), (0, True), (False, 1), (0, 1) * 1501,
            "01", (0, "1"), (0, None),
        ]:
            with self.assertRaises(NoRing) as caught:
                House(EDGE, EDGE, thing)
            self.assertIs(type(caught.exception), NoRing)
        with self.assertRaises(NoRing):
            House(NONE, EDGE, (0,))

    def unchanged(self, house, kept):
        self.assertEqual((house.marks(), house.deeds(), house.told_all(), house.moved()), kept)

    def test_no_place_ahead_of_no_ring(self):
        house = House(crowd(3), SLOW, FIRST)
        house.put(2, 1, (0, 0))
        kept = (house.marks(), house.deeds(), house.told_all(), house.moved())
        n = len(kept[0])
        odd = [thing for thing in oddities() if type(thing) is not int]
        places = [(thing, 0) for thing in odd] + [(0, thing) for thing in odd] + [(thing, thing) for thing in odd]
        places += [
            (-1, 0), (0, -1), (-1, -1), (n + 1, 0), (0, n + 1), (n, 1), (1, n), (10 ** 29, 0), (0, 10 ** 29),
            (-10 ** 29, 10 ** 29), (n + 1, -1), (True, 0), (0, True), (False, False), ("0", 0), (0, "1"), (3, n - 2),
        ]
        for at, out in places:
            for marks in ((0,), (), None, (9,), Strange(), [0]):
                with self.assertRaises(NoPlace) as caught:
                    house.put(at, out, marks)
                self.assertIs(type(caught.exception), NoPlace)
        self.unchanged(house, kept)
        house.put(n, 0, (0,))
        house.put(0, n + 1, (0,))
        self.assertEqual(house.deeds(), 3)

    def test_no_ring_of_anything_as_marks(self):
        house = House(EDGE, EDGE, (0, 1, 0, 1))
        house.put(2, 0, (0, 1))
        kept = (house.marks(), house.deeds(), house.told_all(), house.moved())
        for thing in oddities() + [(0,), (1, 0), [0, 1], (0, 1, 0), (0, 2), (0, True), (0, 1) * 1500, nested(tuple, 30)]:
            if type(thing) is tuple and len(thing) == 0:
                continue
            with self.assertRaises(NoRing) as caught:
                house.put(2, 0, thing)
            self.assertIs(type(caught.exception), NoRing)
        with self.assertRaises(NoRing):
            house.put(0, 6, ())
        with self.assertRaises(NoRing):
            house.put(0, 1, ())
        self.unchanged(house, kept)
        house.put(2, 0, ())
        self.assertEqual(house.deeds(), 2)

    def test_a_house_of_a_wheel(self):
        house = House(wheel(4, 1), wheel(4, 1), (0, 1, 2, 3))
        with self.assertRaises(NoRing):
            house.put(0, 1, (1,))
        house.put(4, 0, (0, 1, 2, 3))
        self.assertEqual(house.told_all(), (0, 1, 2, 3) * 2)
