"""Mirror rings, told by their halves: the marks from an axis of a given class on to the next axis."""

from ringvouch.axes import is_at_axis
from ringvouch.classing import classes
from ringvouch.parts import is_own_mirror, parts
from ringvouch.reaching import ends_of_walks
from ringvouch.walks import least_between


def half_starts(rule, part, first):
    """The marks of the part with which a half from an axis of class first on can begin."""
    if not is_own_mirror(rule, part):
        return []
    gap = first % 2
    known = list(zip(parts(rule)[part], classes(rule, part)))
    ahead = [mark for mark, k in known if 2 * k + gap == first and is_at_axis(rule, mark, gap)]
    # Behind a gap stands the mirror of the mark ahead of it; a mark on an axis is its own mirror.
    return [rule.mirror(mark) for mark in ahead]


def half_ends(rule, first, n):
    """The marks with which a half of n halves of places from an axis of class first on can end."""
    return [mark for mark in range(rule.marks()) if is_at_axis(rule, mark, (first + n) % 2)]


def half_steps(first, n):
    """How many steps it is from the first mark of such a half to its last one."""
    return (n - first % 2) // 2


def is_mirror_size(rule, part, first, n):
    """Whether the part has a ring of n places that is mirrored at an axis of class first."""
    if n < 1:
        return False
    reached = ends_of_walks(rule, half_steps(first, n))
    ends = half_ends(rule, first, n)
    # A half and its way back make a ring, so the walk can't have left the part.
    return any([end in reached[start] for start in half_starts(rule, part, first) for end in ends])


def mirror_sizes(rule, part, first, most):
    """The rising tuple of those n to most for which is_mirror_size is so."""
    reached = [half_starts(rule, part, first)]
    while len(reached) <= half_steps(first, most):
        here = reached[-1]
        coming = sorted({other for mark in here for other in rule.behind(mark)})
        reached.append(coming)
    ends = (half_ends(rule, first, 0), half_ends(rule, first, 1))
    found = []
    for n in range(1, most + 1):
        if any([mark in ends[n % 2] for mark in reached[half_steps(first, n)]]):
            found.append(n)
    return tuple(found)


def least_half(rule, part, first, n):
    """The least half of a ring of n places in the part from an axis of class first on, None where there is none."""
    if n < 1:
        return None
    return least_between(rule, half_starts(rule, part, first), half_ends(rule, first, n), half_steps(first, n))


def half_axis(first, n):
    """The s of the axis of class first in the ring of n places whose place 0 is where its half begins."""
    return 0 if first % 2 == 0 else 2 * n - 1


def unfolded(rule, half, first, n):
    """The marks of the ring of n places that has this half from an axis of class first on, from place 0."""
    s = half_axis(first, n)
    return half + tuple([rule.mirror(half[(s - place) % n]) for place in range(len(half), n)])
