"""Rules for the tests, and slow plain searches to hold the program's answers against."""

import itertools

from ringvouch.classing import classes, period
from ringvouch.parts import parts
from ringvouch.rules import Rule, one_way_rule, plain_rule


class Strange:
    """Something that no function should look into: asked anything, it fails."""

    __hash__ = None

    def __eq__(self, other):
        raise AssertionError("compared")

    def __lt__(self, other):
        raise AssertionError("ordered")

    def __bool__(self):
        raise AssertionError("asked for its truth")

    def __len__(self):
        raise AssertionError("asked for its length")

    def __iter__(self):
        raise AssertionError("iterated over")

    def __index__(self):
        raise AssertionError("taken for a number")


def nested(kind, deep):
    """Something in something in something, so deep."""
    thing = kind()
    for _ in range(deep):
        thing = kind((thing,))
    return thing


def oddities():
    """Things of all kinds that are neither rules' values nor rings."""
    return [
        None, True, False, 0, 1, -1, 10 ** 29, "", "0", "01", b"", b"\x00\x01", [], [0], {}, {0: 0}, set(), {0},
        frozenset((0,)), (), (None,), (True,), ("0",), ((),), ([],), ({},), (set(),), object(), Strange(),
        (Strange(),), ((Strange(), Strange()),), range(2), iter((0, 1)), int, len, 1j, nested(tuple, 30),
        nested(list, 30), (0, nested(tuple, 29)), Rule((0,), ()),
    ]


def involutions(many):
    """All tuples that tell mirrors of so many marks."""
    return [
        mirrors for mirrors in itertools.permutations(range(many))
        if all(mirrors[mirrors[mark]] == mark for mark in range(many))
    ]


def bonds(mirrors):
    """All steps that there could be, each together with its mirror step."""
    pairs = itertools.product(range(len(mirrors)), repeat=2)
    return sorted({tuple(sorted({(a, b), (mirrors[b], mirrors[a])})) for a, b in pairs})


def rule_of(mirrors, chosen):
    """The rule with these mirrors and those bonds whose bits are set in chosen."""
    steps = [step for at, bond in enumerate(bonds(mirrors)) if chosen >> at & 1 for step in bond]
    return Rule(tuple(mirrors), tuple(sorted(steps)))


def all_rules(many):
    """Every rule of so many marks."""
    return [
        rule_of(mirrors, chosen)
        for mirrors in involutions(many) for chosen in range(2 ** len(bonds(mirrors)))
    ]


def small_rules():
    """Every rule of one, two and three marks."""
    return all_rules(1) + all_rules(2) + all_rules(3)


def scattered_rules(many, wanted):
    """Some rules of so many marks, thin and dense ones, always the same ones."""
    rules = []
    state = 12345 + many
    mirrors = involutions(many)
    for at in range(wanted):
        its = mirrors[at * 7 % len(mirrors)]
        chosen = 0
        for bond in range(len(bonds(its))):
            state = (state * 1103515245 + 12345) % 2 ** 31
            if state // 2 ** 16 % (2 + at % 6) == 0:
                chosen += 2 ** bond
        rules.append(rule_of(its, chosen))
    return rules


def great_rules():
    """Rules of four to eight marks."""
    return [rule for many in range(4, 9) for rule in scattered_rules(many, 12)]


def wheel(many, turn):
    """The rule of one wheel of so many marks, each behind the one ahead; its part's turning is turn."""
    return Rule(
        tuple((turn - mark) % many for mark in range(many)),
        tuple(sorted((mark, (mark + 1) % many) for mark in range(many))),
    )


def crowd(many):
    """The plain rule by which every mark may stand behind every one."""
    return plain_rule(many, tuple(itertools.product(range(many), repeat=2)))


def chain():
    """Loops 0 and 2, a step from 0 by 1, which is in no part, to 2; and all that from the other side."""
    return one_way_rule(3, ((0, 0), (0, 1), (1, 2), (2, 2)))


def is_walk(rule, marks):
    """Whether each of the marks may stand right behind the one ahead, by the steps themselves."""
    return all(pair in rule.steps for pair in zip(marks, marks[1:]))


def all_walks(rule, n):
    """All walks of n steps, rising."""
    walks = [(mark,) for mark in range(len(rule.mirrors))]
    for _ in range(n):
        walks = [walk + (b,) for walk in walks for a, b in rule.steps if a == walk[-1]]
    return sorted(walks)


def all_rings(rule, n):
    """All tuples of n marks that are rings, rising, found among all tuples there are."""
    every = itertools.product(range(len(rule.mirrors)), repeat=n)
    return [marks for marks in every if is_walk(rule, marks + marks[:1])]


def ends(rule, one, n):
    """The marks at which walks of n steps from mark one end."""
    here = {one}
    for _ in range(n):
        here = {b for a, b in rule.steps if a in here}
    return here


def closed_sizes(rule, marks, most):
    """The numbers to most of the steps of walks that come back to one of the marks, gone step by step."""
    return [n for n in range(1, most + 1) if any(mark in ends(rule, mark, n) for mark in marks)]


def two_wheels(many, other):
    """One part of two wheels, of so many marks and of so many others, that have mark 0 alone together."""
    steps = {(mark, (mark + 1) % many) for mark in range(many)}
    ways = [0] + list(range(many, many + other - 1))
    steps |= {(a, b) for a, b in zip(ways, ways[1:] + [0])}
    mirrors = [-mark % many for mark in range(many)] + list(reversed(ways[1:]))
    return Rule(tuple(mirrors), tuple(sorted(steps)))


def part_rules():
    """Rules with parts of all sorts: none, several, one leading on to another, of each period to eight."""
    rules = [wheel(many, turn) for many in range(1, 9) for turn in range(many)]
    rules += [one_way_rule(many, tuple((k, (k + 1) % many) for k in range(many))) for many in range(1, 5)]
    rules += [two_wheels(many, other) for many in range(1, 8) for other in range(1, 9 - many)]
    rules += [chain(), crowd(8), crowd(2), plain_rule(8, ()), plain_rule(8, tuple((k, k) for k in range(8)))]
    return rules + great_rules()


def each_part(rules):
    """Each part of the rules: the rule, the part's number, its marks."""
    return [(rule, number, part) for rule in rules for number, part in enumerate(parts(rule))]


def plain_axes(rule, marks):
    """All s at which the marks as a ring are mirrored, each tried at each place."""
    n = len(marks)
    return tuple(
        s for s in range(2 * n)
        if all(marks[(s - place) % n] == rule.mirrors[marks[place]] for place in range(n))
    )


def plain_axis_class(rule, number, marks, s):
    """The axis class at s of a ring in the part of that number."""
    of = dict(zip(parts(rule)[number], classes(rule, number)))
    rest = 2 * period(rule, number)
    return 2 * of[marks[s // 2]] % rest if s % 2 == 0 else (2 * of[marks[(s - 1) // 2]] + 1) % rest


def half_from(marks, s):
    """The marks of a ring from the half place s on to the one that is as many halves on as it has places."""
    n = len(marks)
    return tuple(marks[at // 2 % n] for at in range(s, s + n + 1) if at % 2 == 0)


def mirror_halves(rule, n):
    """For each part's number and axis class: the halves of all rings of n places from such axes on."""
    found = {}
    for ring in all_rings(rule, n):
        number = [at for at, part in enumerate(parts(rule)) if ring[0] in part][0]
        for s in plain_axes(rule, ring):
            key = number, plain_axis_class(rule, number, ring, s)
            found.setdefault(key, []).append(half_from(ring, s))
    return found
