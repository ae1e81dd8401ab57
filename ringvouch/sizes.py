"""Sizes of a part: how many places rings in it have, how many rings there are, and the least one."""

from ringvouch.parts import parts
from ringvouch.reaching import ends_at_once, ends_behind, ends_of_steps, ends_of_walks
from ringvouch.walks import least_walk


def come_back(ends, marks):
    """Those of the marks to which a walk with such ends comes back; it can't have left their part between."""
    return [mark for mark in marks if mark in ends[mark]]


def is_size(rule, part, n):
    """Whether the part has a ring of n places."""
    return n >= 1 and len(come_back(ends_of_walks(rule, n), parts(rule)[part])) > 0


def sizes(rule, part, most):
    """The rising tuple of the sizes of the part to most."""
    marks = parts(rule)[part]
    step = ends_of_steps(rule)
    ends = ends_at_once(rule)
    found = []
    for n in range(1, most + 1):
        ends = ends_behind(ends, step)
        if len(come_back(ends, marks)) > 0:
            found.append(n)
    return tuple(found)


def walks_back(rule, mark, n):
    """How many walks of n steps lead from the mark to itself."""
    counts = [0] * rule.marks()
    counts[mark] = 1
    for at in range(n):
        coming = [0] * rule.marks()
        for a, b in rule.steps:
            coming[b] += counts[a]
        counts = coming
    return counts[mark]


def how_many(rule, part, n):
    """How many tuples of n marks are rings in the part."""
    if n < 1:
        return 0
    return sum([walks_back(rule, mark, n) for mark in parts(rule)[part]])


def least_ring(rule, part, n):
    """The least tuple of n marks that is a ring in the part, None where there is none."""
    if n < 1:
        return None
    starts = come_back(ends_of_walks(rule, n), parts(rule)[part])
    if len(starts) == 0:
        return None
    walk = least_walk(rule, starts[0], starts[0], n)
    return walk[:-1]
