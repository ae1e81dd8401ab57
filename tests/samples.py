"""Rules for the tests, and slow plain searches to hold the program's answers against."""

import functools
import itertools

from ringvouch.axes import axis_classes
from ringvouch.classing import classes, period, turning
from ringvouch.halves import is_mirror_size
from ringvouch.parts import mirror_part, parts
from ringvouch.rules import Rule, one_way_rule, plain_rule
from ringvouch.sizes import is_size


class Strange:
    """Something that no function should look into: asked anything, it fails."""

    __hash__ = None

    def __eq__(self, other):
        raise AssertionError("compared")

    def __lt__(self, other):
        raise AssertionError("ordered")

    def __bool__(self):
        raise AssertionError("asked for its truth")

    def __len__(self):
        raise AssertionError("asked for its length")

    def __iter__(self):
        raise AssertionError("iterated over")

    def __index__(self):
        raise AssertionError("taken for a number")


def nested(kind, deep):
    """Something in something in something, so deep."""
    thing = kind()
    for _ in range(deep):
        thing = kind((thing,))
    return thing


def oddities():
    """Things of all kinds that are neither rules' values nor rings."""
    return [
        None, True, False, 0, 1, -1, 10 ** 29, "", "0", "01", b"", b"\x00\x01", [], [0], {}, {0: 0}, set(), {0},
        frozenset((0,)), (), (None,), (True,), ("0",), ((),), ([],), ({},), (set(),), object(), Strange(),
        (Strange(),), ((Strange(), Strange()),), range(2), iter((0, 1)), int, len, 1j, nested(tuple, 30),
        nested(list, 30), (0, nested(tuple, 29)), Rule((0,), ()),
    ]


def involutions(many):
    """All tuples that tell mirrors of so many marks."""
    return [
        mirrors for mirrors in itertools.permutations(range(many))
        if all(mirrors[mirrors[mark]] == mark for mark in range(many))
    ]


def bonds(mirrors):
    """All steps that there could be, each together with its mirror step."""
    pairs = itertools.product(range(len(mirrors)), repeat=2)
    return sorted({tuple(sorted({(a, b), (mirrors[b], mirrors[a])})) for a, b in pairs})


def rule_of(mirrors, chosen):
    """The rule with these mirrors and those bonds whose bits are set in chosen."""
    steps = [step for at, bond in enumerate(bonds(mirrors)) if chosen >> at & 1 for step in bond]
    return Rule(tuple(mirrors), tuple(sorted(steps)))


def all_rules(many):
    """Every rule of so many marks."""
    return [
        rule_of(mirrors, chosen)
        for mirrors in involutions(many) for chosen in range(2 ** len(bonds(mirrors)))
    ]


def small_rules():
    """Every rule of one, two and three marks."""
    return all_rules(1) + all_rules(2) + all_rules(3)


def scattered_rules(many, wanted):
    """Some rules of so many marks, thin and dense ones, always the same ones."""
    rules = []
    state = 12345 + many
    mirrors = involutions(many)
    for at in range(wanted):
        its = mirrors[at * 7 % len(mirrors)]
        chosen = 0
        for bond in range(len(bonds(its))):
            state = (state * 1103515245 + 12345) % 2 ** 31
            if state // 2 ** 16 % (2 + at % 6) == 0:
                chosen += 2 ** bond
        rules.append(rule_of(its, chosen))
    return rules


def great_rules():
    """Rules of four to eight marks."""
    return [rule for many in range(4, 9) for rule in scattered_rules(many, 12)]


def wheel(many, turn):
    """The rule of one wheel of so many marks, each behind the one ahead; its part's turning is turn."""
    return Rule(
        tuple((turn - mark) % many for mark in range(many)),
        tuple(sorted((mark, (mark + 1) % many) for mark in range(many))),
    )


def crowd(many):
    """The plain rule by which every mark may stand behind every one."""
    return plain_rule(many, tuple(itertools.product(range(many), repeat=2)))


def chain():
    """Loops 0 and 2, a step from 0 by 1, which is in no part, to 2; and all that from the other side."""
    return one_way_rule(3, ((0, 0), (0, 1), (1, 2), (2, 2)))


def is_walk(rule, marks):
    """Whether each of the marks may stand right behind the one ahead, by the steps themselves."""
    return all(pair in rule.steps for pair in zip(marks, marks[1:]))


def all_walks(rule, n):
    """All walks of n steps, rising."""
    walks = [(mark,) for mark in range(len(rule.mirrors))]
    for _ in range(n):
        walks = [walk + (b,) for walk in walks for a, b in rule.steps if a == walk[-1]]
    return sorted(walks)


def all_rings(rule, n):
    """All tuples of n marks that are rings, rising, found among all tuples there are."""
    every = itertools.product(range(len(rule.mirrors)), repeat=n)
    return [marks for marks in every if is_walk(rule, marks + marks[:1])]


def ends(rule, one, n):
    """The marks at which walks of n steps from mark one end."""
    here = {one}
    for _ in range(n):
        here = {b for a, b in rule.steps if a in here}
    return here


def closed_sizes(rule, marks, most):
    """The numbers to most of the steps of walks that come back to one of the marks, gone step by step."""
    return [n for n in range(1, most + 1) if any(mark in ends(rule, mark, n) for mark in marks)]


def two_wheels(many, other):
    """One part of two wheels, of so many marks and of so many others, that have mark 0 alone together."""
    steps = {(mark, (mark + 1) % many) for mark in range(many)}
    ways = [0] + list(range(many, many + other - 1))
    steps |= {(a, b) for a, b in zip(ways, ways[1:] + [0])}
    mirrors = [-mark % many for mark in range(many)] + list(reversed(ways[1:]))
    return Rule(tuple(mirrors), tuple(sorted(steps)))


def part_rules():
    """Rules with parts of all sorts: none, several, one leading on to another, of each period to eight."""
    rules = [wheel(many, turn) for many in range(1, 9) for turn in range(many)]
    rules += [one_way_rule(many, tuple((k, (k + 1) % many) for k in range(many))) for many in range(1, 5)]
    rules += [two_wheels(many, other) for many in range(1, 8) for other in range(1, 9 - many)]
    rules += [chain(), crowd(8), crowd(2), plain_rule(8, ()), plain_rule(8, tuple((k, k) for k in range(8)))]
    return rules + great_rules()


def each_part(rules):
    """Each part of the rules: the rule, the part's number, its marks."""
    return [(rule, number, part) for rule in rules for number, part in enumerate(parts(rule))]


def plain_axes(rule, marks):
    """All s at which the marks as a ring are mirrored, each tried at each place."""
    n = len(marks)
    return tuple(
        s for s in range(2 * n)
        if all(marks[(s - place) % n] == rule.mirrors[marks[place]] for place in range(n))
    )


def plain_axis_class(rule, number, marks, s):
    """The axis class at s of a ring in the part of that number."""
    of = dict(zip(parts(rule)[number], classes(rule, number)))
    rest = 2 * period(rule, number)
    return 2 * of[marks[s // 2]] % rest if s % 2 == 0 else (2 * of[marks[(s - 1) // 2]] + 1) % rest


def half_from(marks, s):
    """The marks of a ring from the half place s on to the one that is as many halves on as it has places."""
    n = len(marks)
    return tuple(marks[at // 2 % n] for at in range(s, s + n + 1) if at % 2 == 0)


def mirror_halves(rule, n):
    """For each part's number and axis class: the halves of all rings of n places from such axes on."""
    found = {}
    for ring in all_rings(rule, n):
        number = [at for at, part in enumerate(parts(rule)) if ring[0] in part][0]
        for s in plain_axes(rule, ring):
            key = number, plain_axis_class(rule, number, ring, s)
            found.setdefault(key, []).append(half_from(ring, s))
    return found


def far_rules():
    """Two rules of one part each: the least size of the first one that the second one lacks is 7."""
    steps = {(k, (k + 1) % 6) for k in range(6)} | {(3, 1), (5, 3), (5, 1), (0, 6), (6, 0)}
    return two_wheels(2, 3), Rule((0, 5, 4, 3, 2, 1, 6), tuple(sorted(steps)))


def far_mirror_rules():
    """Two rules whose part 1 and part 0 differ by mirror rings of no fewer than 16 places."""
    one = Rule((2, 5, 0, 3, 6, 1, 4, 7), (
        (0, 0), (0, 6), (1, 3), (2, 2), (3, 4), (3, 5), (4, 1), (4, 2), (4, 4), (5, 1), (5, 6), (6, 3), (6, 6), (7, 7),
    ))
    other = Rule((2, 6, 0, 3, 4, 7, 1, 5), (
        (0, 0), (0, 6), (1, 0), (1, 2), (1, 3), (1, 4), (2, 2), (2, 5), (2, 6), (3, 6), (3, 7), (4, 1), (4, 6), (5, 3),
        (6, 4), (7, 0), (7, 5),
    ))
    return one, other


def gaps_alone():
    """Two marks that are each other's mirrors, all steps: axes go through gaps alone."""
    return Rule((1, 0), tuple(itertools.product(range(2), repeat=2)))


def places_alone():
    """A mark that is its own mirror between two loops: axes go through places alone."""
    return Rule((0, 2, 1), ((0, 1), (0, 2), (1, 0), (1, 1), (2, 0), (2, 2)))


def no_axes():
    """A part of period 2 and turning 0 that is its own mirror, though none of its rings is mirrored anywhere."""
    return Rule((1, 0, 3, 2), ((0, 2), (0, 3), (1, 2), (1, 3), (2, 0), (2, 1), (3, 0), (3, 1)))


def fitting_rules():
    """Rules that fit one another or not for all reasons there are."""
    rules = [wheel(many, turn) for many in (1, 2, 3, 4, 6, 8) for turn in range(min(many, 3))]
    rules += [one_way_rule(many, tuple((k, (k + 1) % many) for k in range(many))) for many in (1, 2, 4)]
    rules += [two_wheels(2, 3), two_wheels(3, 5), two_wheels(2, 4), two_wheels(4, 5), chain(), crowd(2)]
    rules += [gaps_alone(), places_alone(), plain_rule(2, ()), plain_rule(2, ((0, 1),))]
    rules += [plain_rule(4, ((0, 1), (2, 3))), no_axes(), one_way_rule(2, ((0, 1), (1, 0)))]
    rules += [plain_rule(3, ((0, 0), (0, 1), (1, 2))), plain_rule(4, ((0, 1), (1, 2), (2, 3), (3, 0)))]
    rules += [*far_rules(), *far_mirror_rules(), plain_rule(5, ((0, 0), (1, 2), (3, 4), (4, 4)))]
    return rules + scattered_rules(3, 6) + scattered_rules(5, 4) + scattered_rules(8, 4)


class Portrait:
    """What there is to know of a part, to great numbers, asked one by one."""

    MOST = 160

    def __init__(self, rule, number):
        self.period = period(rule, number)
        self.turning = turning(rule, number)
        self.mirror = mirror_part(rule, number)
        self.is_own_mirror = self.mirror == number
        self.sizes = {n for n in range(1, self.MOST) if is_size(rule, number, n)}
        self.mirror_sizes = {
            first: {n for n in range(1, self.MOST) if is_mirror_size(rule, number, first, n)}
            for first in axis_classes(rule, number)
        }


@functools.cache
def portraits_of(mirrors, steps):
    rule = Rule(mirrors, steps)
    return [Portrait(rule, number) for number in range(len(parts(rule)))]


def portraits(rule):
    """The portrait of each part of the rule."""
    return portraits_of(rule.mirrors, rule.steps)


def plain_fits(c, d, shift):
    """Whether the part of portrait c fits that of portrait d, by the words of point 12."""
    if shift >= d.period or not c.sizes <= d.sizes:
        return False
    if not c.is_own_mirror:
        return True
    if not d.is_own_mirror or d.turning != (c.turning + 2 * shift) % d.period:
        return False
    return all(
        its <= d.mirror_sizes.get((first + 2 * shift) % (2 * d.period), set())
        for first, its in c.mirror_sizes.items()
    )


def plain_pairs(c, others):
    """All pairs of a part and a shift by which the part of portrait c fits one of the others."""
    return [
        (its, shift) for its, d in enumerate(others) for shift in range(d.period) if plain_fits(c, d, shift)
    ]


def is_plain_plan(rule, other, plan):
    """Whether a tuple of as many pairs of whole numbers as the rule has parts is a plan, by the words of point 13."""
    ours, theirs = portraits(rule), portraits(other)
    for c, (its, shift) in zip(ours, plan):
        d = theirs[its]
        if not plain_fits(c, d, shift):
            return False
        if not c.is_own_mirror and plan[c.mirror] != (d.mirror, (d.turning - c.turning - shift) % d.period):
            return False
    return True


def is_plain_ring(rule, part, marks):
    """Whether a tuple of marks is a ring in the part of that number."""
    return len(marks) > 0 and marks[0] in parts(rule)[part] and is_walk(rule, marks + marks[:1])


def is_plain_reason(rule, part, other, its, reason):
    """Whether what has the form of a reason is one, by the words of point 14."""
    c, d = portraits(rule)[part], portraits(other)[its]
    word = reason[0]
    if word == "size":
        return is_plain_ring(rule, part, reason[1]) and len(reason[1]) not in d.sizes
    if word == "side":
        return c.is_own_mirror and not d.is_own_mirror
    if not c.is_own_mirror or not d.is_own_mirror:
        return False
    if word == "way":
        marks = reason[1]
        if len(marks) == 0 or not set(marks) <= set(parts(rule)[part]) or not is_walk(rule, marks):
            return False
        return marks[-1] == rule.mirrors[marks[0]] and d.period % 2 == 0 and (len(marks) - 1 + d.turning) % 2 == 1
    shifts = [shift for shift in range(d.period) if d.turning == (c.turning + 2 * shift) % d.period]
    if c.period % d.period != 0 or len(reason[1]) == 0 or len(reason[1]) != len(shifts):
        return False
    for shift, (marks, s) in zip(shifts, reason[1]):
        if not is_plain_ring(rule, part, marks) or s not in plain_axes(rule, marks):
            return False
        wanted = (plain_axis_class(rule, part, marks, s) + 2 * shift) % (2 * d.period)
        if len(marks) in d.mirror_sizes.get(wanted, ()):
            return False
    return True


def kind_of(thing):
    """The kinds of something and of all in it: two that are equal may differ by these, as 1 and True do."""
    return tuple(kind_of(inner) for inner in thing) if isinstance(thing, tuple) else type(thing)


class Dice:
    """Numbers that seem to come by chance, always the same ones."""

    def __init__(self, seed):
        self.state = seed * 7919 + 1

    def below(self, many):
        self.state = (self.state * 6364136223846793005 + 1442695040888963407) % 2 ** 64
        return (self.state >> 33) % many

    def one_of(self, things):
        return things[self.below(len(things))]


def part_walk(rule, mark, n, dice):
    """A walk of n steps from the mark within its part, as a list."""
    walk = [mark]
    inner = parts(rule)[part_number(rule, mark)]
    for _ in range(n):
        walk.append(dice.one_of([b for a, b in rule.steps if a == walk[-1] and b in inner]))
    return walk


def part_number(rule, mark):
    return [number for number, part in enumerate(parts(rule)) if mark in part][0]


def short_walk(rule, one, other):
    """A shortest walk of one step or more from mark one to mark other of its part, without its first mark."""
    walks = [(one,)]
    while True:
        walks = [walk + (b,) for walk in walks for a, b in rule.steps if a == walk[-1]]
        # Of the walks to each mark one is enough.
        walks = list({walk[-1]: walk for walk in walks}.values())
        for walk in walks:
            if walk[-1] == other:
                return list(walk[1:])


def closed(rule, walk):
    """A ring that begins with the walk."""
    return walk + short_walk(rule, walk[-1], walk[0])[:-1]


def back_of(rule, marks):
    """The mirrors of the marks from behind, as a list."""
    return [rule.mirrors[mark] for mark in reversed(marks)]


def axis_spots(rule, number):
    """Each mark of a part at which an axis can stand, and 0 where it goes through it, 1 where right behind it."""
    inner = parts(rule)[number]
    through = [(mark, 0) for mark in inner if rule.mirrors[mark] == mark]
    able = [mark for mark in inner if rule.mirrors[mark] in inner]
    return through + [(mark, 1) for mark in able if (mark, rule.mirrors[mark]) in rule.steps]


def mixed_ring(rule, number, wide, dice):
    """The marks of a ring in the part, of some stretches that are wild, tame or mirrored; wide is about the span."""
    inner = parts(rule)[number]
    walk = [dice.one_of(inner)]
    for _ in range(1 + dice.below(4)):
        sort = dice.below(4)
        if sort == 0:
            walk += part_walk(rule, walk[-1], dice.below(10 * wide), dice)[1:]
        elif sort == 1:
            cycle = closed(rule, part_walk(rule, walk[-1], dice.below(dice.one_of((2, 4, 2 * wide + 2))), dice))
            most = dice.one_of((3, 12 * wide, 40 * wide))
            walk += (cycle[1:] + cycle[:1]) * (1 + dice.below(1 + most // len(cycle)))
        elif sort == 2 and axis_spots(rule, number) and len(walk) < 300:
            mark, gap = dice.one_of(axis_spots(rule, number))
            walk += short_walk(rule, walk[-1], mark)
            walk += back_of(rule, walk)[1 - gap:]
        else:
            walk += short_walk(rule, walk[-1], dice.one_of(inner))
    return tuple(closed(rule, walk))


def mirror_ring_of(rule, number, n, dice):
    """The marks of a ring in a part that is its own mirror, mirrored at two axes, of about 2 * n places."""
    mark, gap = dice.one_of(axis_spots(rule, number))
    other, its_gap = dice.one_of(axis_spots(rule, number))
    start = rule.mirrors[mark]
    half = part_walk(rule, start, n, dice)
    half += short_walk(rule, half[-1], other)
    whole = half + back_of(rule, half)[1 - its_gap:]
    return tuple(whole if gap else whole[:-1])


def looked_at(ring, first, many):
    """So many marks of a tuple as a ring from the place first on."""
    return tuple(ring[(first + at) % len(ring)] for at in range(many))


def halves_apart(one, other, n):
    """How many halves two half places of a ring of n places are apart."""
    off = (one - other) % (2 * n)
    return min(off, 2 * n - off)


def plain_is_tame(wide, marks):
    """Whether the marks come again by one of the first 2 * wide periods."""
    return any(marks[at:] == marks[:-at] for at in range(1, min(2 * wide, len(marks) - 1) + 1))


def plain_wild(wide, marks):
    """The wild places of a ring."""
    return [
        place for place in range(len(marks))
        if not plain_is_tame(wide, looked_at(marks, place - 4 * wide, 8 * wide + 1))
    ]


def plain_centres(rule, wide, marks):
    """The centres of a ring."""
    found = []
    for s in range(2 * len(marks)):
        first = (s + 1) // 2 - 7 * wide
        seen = looked_at(marks, first, 14 * wide + 1 - s % 2)
        if list(seen) == back_of(rule, seen):
            found.append(s)
    return found


def staircase(many, wide):
    """A ring of the crowd of so many marks along which names rise long and then fall as long."""
    up = [mark for mark in range(many) for _ in range(wide)]
    return tuple(up + up[::-1][wide:-wide])


def faults(owner, rule, other, plan, part, marks, told):
    """Asserts that told is a ring of the other rule, in the part and of the classes that the plan tells."""
    its, shift = plan[part]
    of = dict(zip(parts(rule)[part], classes(rule, part)))
    its_of = dict(zip(parts(other)[its], classes(other, its)))
    owner.assertEqual(kind_of(told), (int,) * len(marks))
    owner.assertTrue(is_walk(other, told + told[:1]))
    owner.assertTrue(all(mark in its_of for mark in told))
    owner.assertEqual([its_of[mark] for mark in told], [(of[mark] + shift) % period(other, its) for mark in marks])
