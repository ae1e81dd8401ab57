"""Point 8: sizes."""

import unittest

from ringvouch.classing import period
from ringvouch.parts import parts
from ringvouch.rings import is_ring
from ringvouch.rules import one_way_rule, plain_rule
from ringvouch.sizes import how_many, is_size, least_ring, sizes
from tests.samples import (
    all_rings, all_walks, chain, closed_sizes, crowd, each_part, part_rules, scattered_rules, small_rules, two_wheels,
    wheel,
)

GREAT = 10 ** 29 + 7


class IsSizeTest(unittest.TestCase):
    def test_every_n_to_twenty_two(self):
        for rule, number, part in each_part(small_rules() + part_rules()):
            wanted = closed_sizes(rule, part, 22)
            for n in range(1, 23):
                self.assertIs(is_size(rule, number, n), n in wanted)

    def test_beside_all_walks(self):
        thin = [wheel(5, 1), two_wheels(3, 4), two_wheels(2, 5), chain(), plain_rule(3, ((0, 1), (1, 2)))]
        for rule, number, part in each_part(thin):
            for n in range(1, 13):
                wanted = any(walk[0] == walk[-1] and walk[0] in part for walk in all_walks(rule, n))
                self.assertIs(is_size(rule, number, n), wanted)

    def test_thirty_figures(self):
        for many in range(1, 9):
            near = GREAT // many * many
            for n in range(near - 9, near + 10):
                self.assertIs(is_size(wheel(many, 0), 0, n), n % many == 0)
        for rule, number, part in each_part(part_rules()):
            for n in (GREAT, GREAT + 1, 840 * GREAT, 10 ** 30 - 1):
                # So far out a part has every size that its period parts.
                self.assertIs(is_size(rule, number, n), n % period(rule, number) == 0)

    def test_sizes_that_two_wheels_make_together(self):
        rule = two_wheels(3, 5)
        self.assertEqual([n for n in range(1, 16) if is_size(rule, 0, n)], [3, 5, 6, 8, 9, 10, 11, 12, 13, 14, 15])

    def test_nought_is_no_size(self):
        self.assertIs(is_size(crowd(2), 0, 0), False)
        self.assertEqual(how_many(crowd(2), 0, 0), 0)
        self.assertIsNone(least_ring(crowd(2), 0, 0))


class SizesTest(unittest.TestCase):
    def test_small_most(self):
        for rule, number, part in each_part(small_rules() + part_rules()):
            for most in (0, 1, 2, 21):
                self.assertEqual(sizes(rule, number, most), tuple(closed_sizes(rule, part, most)))

    def test_three_hundred(self):
        self.assertEqual(sizes(wheel(7, 2), 0, 300), tuple(range(7, 301, 7)))
        self.assertEqual(sizes(wheel(4, 2), 0, 300), tuple(range(4, 301, 4)))
        self.assertEqual(sizes(crowd(8), 0, 300), tuple(range(1, 301)))
        self.assertEqual(sizes(two_wheels(4, 5), 0, 300), (4, 5, 8, 9, 10) + tuple(range(12, 301)))

    def test_nought_and_one(self):
        self.assertEqual([sizes(crowd(3), 0, most) for most in (0, 1)], [(), (1,)])
        self.assertEqual([sizes(wheel(2, 0), 0, most) for most in (0, 1)], [(), ()])


class HowManyTest(unittest.TestCase):
    def test_beside_all_tuples(self):
        rules = small_rules() + scattered_rules(4, 12) + scattered_rules(5, 6)
        for rule in rules:
            for n in range(1, 6):
                rings = all_rings(rule, n)
                for number, part in enumerate(parts(rule)):
                    self.assertEqual(how_many(rule, number, n), len([ring for ring in rings if ring[0] in part]))

    def test_three_hundred(self):
        self.assertEqual(how_many(crowd(8), 0, 300), 8 ** 300)
        self.assertEqual(how_many(plain_rule(2, ((0, 1),)), 0, 300), 2)
        self.assertEqual(how_many(wheel(6, 1), 0, 300), 6)
        ways = [2, 1]
        for _ in range(299):
            ways.append(ways[-1] + ways[-2])
        self.assertEqual(how_many(plain_rule(2, ((0, 0), (0, 1))), 0, 300), ways[300])

    def test_none(self):
        self.assertEqual(how_many(wheel(7, 1), 0, 299), 0)
        self.assertEqual(how_many(plain_rule(2, ((0, 1),)), 0, 1), 0)
        self.assertEqual(how_many(two_wheels(3, 5), 0, 7), 0)

    def test_each_part_by_itself(self):
        rule = one_way_rule(4, ((0, 0), (0, 1), (1, 2), (2, 3), (3, 2), (3, 3)))
        self.assertEqual([how_many(rule, part, 4) for part in range(4)], [1, 7, 1, 7])


class LeastRingTest(unittest.TestCase):
    def test_beside_all_tuples(self):
        rules = small_rules() + scattered_rules(4, 12) + scattered_rules(5, 6)
        for rule in rules:
            for n in range(1, 6):
                rings = all_rings(rule, n)
                for number, part in enumerate(parts(rule)):
                    wanted = [ring for ring in rings if ring[0] in part]
                    self.assertEqual(least_ring(rule, number, n), wanted[0] if wanted else None)

    def test_three_hundred(self):
        self.assertEqual(least_ring(crowd(8), 0, 300), (0,) * 300)
        self.assertEqual(least_ring(wheel(6, 1), 0, 300), (0, 1, 2, 3, 4, 5) * 50)
        self.assertEqual(least_ring(plain_rule(3, ((0, 2), (1, 2))), 0, 300), (0, 2) * 150)
        self.assertEqual(least_ring(two_wheels(3, 6), 0, 300), (0, 1, 2) * 100)
        self.assertEqual(least_ring(two_wheels(3, 5), 0, 299), (0, 1, 2) * 98 + (0, 3, 4, 5, 6))

    def test_the_least_start_may_have_no_such_ring(self):
        rule = plain_rule(3, ((0, 1), (1, 2), (2, 2)))
        self.assertEqual([least_ring(rule, 0, n) for n in (1, 2, 3)], [(2,), (0, 1), (1, 2, 2)])

    def test_none(self):
        self.assertIsNone(least_ring(wheel(7, 1), 0, 299))
        self.assertIsNone(least_ring(two_wheels(3, 5), 0, 7))
        self.assertIsNone(least_ring(plain_rule(2, ((0, 1),)), 0, 1))

    def test_just_where_there_is_a_size(self):
        for rule, number, part in each_part(part_rules()):
            for n in (1, 2, 3, 7, 12, 40):
                ring = least_ring(rule, number, n)
                self.assertIs(ring is not None, is_size(rule, number, n))
                self.assertIs(how_many(rule, number, n) > 0, is_size(rule, number, n))
                if ring is not None:
                    self.assertEqual(len(ring), n)
                    self.assertTrue(is_ring(rule, ((1, ring),)))
                    self.assertTrue(set(ring) <= set(part))

    def test_arguments_by_name_and_the_same_again(self):
        rule = two_wheels(3, 5)
        self.assertEqual(is_size(rule=rule, part=0, n=8), is_size(rule, 0, 8))
        self.assertEqual(sizes(rule=rule, part=0, most=20), sizes(rule, 0, 20))
        self.assertEqual(how_many(rule=rule, part=0, n=20), how_many(rule, 0, 20))
        self.assertEqual(least_ring(rule=rule, part=0, n=20), least_ring(rule, 0, 20))
        self.assertEqual(rule, two_wheels(3, 5))
