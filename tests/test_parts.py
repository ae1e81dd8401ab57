"""Point 6: parts."""

import unittest

from ringvouch.parts import mirror_part, part_of, parts
from ringvouch.rules import Rule, one_way_rule, plain_rule
from tests.samples import all_rings, chain, crowd, ends, part_rules, small_rules, wheel


def leads(rule, one, other):
    """Whether a walk of one step or more leads from the one mark to the other; at most eight are needed."""
    return any(other in ends(rule, one, n) for n in range(1, len(rule.mirrors) + 1))


def searched_parts(rule):
    """All parts by their very definition."""
    marks = range(len(rule.mirrors))
    found = set()
    for mark in marks:
        if leads(rule, mark, mark):
            found.add(tuple(o for o in marks if leads(rule, mark, o) and leads(rule, o, mark)))
    return tuple(sorted(found))


class PartsTest(unittest.TestCase):
    def test_beside_a_search(self):
        for rule in small_rules() + part_rules():
            found = parts(rule)
            self.assertEqual(found, searched_parts(rule))
            self.assertIsInstance(found, tuple)
            for part in found:
                self.assertEqual(part, tuple(sorted(set(part))))
            self.assertEqual(list(found), sorted(found))

    def test_no_step(self):
        for many in range(1, 9):
            self.assertEqual(parts(plain_rule(many, ())), ())

    def test_marks_in_no_part(self):
        self.assertEqual(parts(Rule((1, 0), ((0, 1),))), ())
        self.assertEqual(parts(chain()), ((0,), (2,), (3,), (5,)))
        self.assertEqual(parts(Rule((1, 0, 2), ((0, 2), (2, 1), (2, 2)))), ((2,),))

    def test_parts_that_lead_on_to_others_but_not_back(self):
        rule = one_way_rule(4, ((0, 3), (3, 0), (3, 1), (1, 2), (2, 1)))
        self.assertEqual(parts(rule), ((0, 3), (1, 2), (4, 7), (5, 6)))

    def test_one_part_of_eight_marks(self):
        self.assertEqual(parts(crowd(8)), ((0, 1, 2, 3, 4, 5, 6, 7),))
        self.assertEqual(parts(wheel(8, 3)), ((0, 1, 2, 3, 4, 5, 6, 7),))

    def test_eight_parts_of_one_mark(self):
        self.assertEqual(parts(plain_rule(8, tuple((k, k) for k in range(8)))), tuple((k,) for k in range(8)))

    def test_each_ring_stands_in_one_part(self):
        for rule in small_rules():
            for n in range(1, 5):
                for ring in all_rings(rule, n):
                    self.assertEqual(len({part_of(rule, mark) for mark in ring} - {None}), 1)

    def test_arguments_by_name_and_the_same_again(self):
        rule = chain()
        self.assertEqual(parts(rule=rule), parts(rule))
        self.assertEqual(part_of(rule=rule, mark=2), part_of(rule, 2))
        self.assertEqual(mirror_part(rule=rule, part=1), mirror_part(rule, 1))
        self.assertEqual(rule, chain())


class PartOfTest(unittest.TestCase):
    def test_each_mark(self):
        for rule in small_rules() + part_rules():
            its_parts = searched_parts(rule)
            for mark in range(len(rule.mirrors)):
                wanted = [number for number, part in enumerate(its_parts) if mark in part]
                self.assertEqual(part_of(rule, mark), wanted[0] if wanted else None)

    def test_none_of_one_in_no_part(self):
        self.assertEqual([part_of(chain(), mark) for mark in range(6)], [0, None, 1, 2, None, 3])
        self.assertIsNone(part_of(plain_rule(1, ()), 0))


class MirrorPartTest(unittest.TestCase):
    def test_the_part_of_the_mirrors(self):
        for rule in small_rules() + part_rules():
            its_parts = searched_parts(rule)
            for number, part in enumerate(its_parts):
                other = mirror_part(rule, number)
                self.assertEqual(its_parts[other], tuple(sorted(rule.mirrors[mark] for mark in part)))
                self.assertEqual(mirror_part(rule, other), number)

    def test_its_own_mirror_and_not(self):
        self.assertEqual(mirror_part(crowd(8), 0), 0)
        self.assertEqual([mirror_part(chain(), part) for part in range(4)], [2, 3, 0, 1])
