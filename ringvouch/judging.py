"""Judging two rules: a plan by which each part of the one fits a part of the other, or a paper why there is none."""

from ringvouch.fits import good_shifts, lacking_mirror, lacking_size, mirror_pair, turning_shifts
from ringvouch.halves import half_axis, least_half, unfolded
from ringvouch.parts import is_own_mirror, mirror_part, parts
from ringvouch.sizes import least_ring
from ringvouch.walks import least_walk


def judged(rule, other):
    """A plan from the rule to the other one, behind "plan"; a paper behind "none" where there is no plan."""
    plan = []
    for part in range(len(parts(rule))):
        mirror = mirror_part(rule, part)
        if mirror < part:
            pair = mirror_pair(rule, mirror, other, plan[mirror])
        else:
            pair = first_pair(rule, part, other)
        if pair is None:
            return "none", paper_of(rule, part, other)
        plan.append(pair)
    return "plan", tuple(plan)


def first_pair(rule, part, other):
    """The least pair by which the part fits a part of the other rule, None where it fits none."""
    for its in range(len(parts(other))):
        able = good_shifts(rule, part, other, its)
        if len(able) > 0:
            return its, able[0]
    return None


def paper_of(rule, part, other):
    """The paper on a part that fits no part of the other rule."""
    return part, tuple([reason_of(rule, part, other, its) for its in range(len(parts(other)))])


def reason_of(rule, part, other, its):
    """The reason why the part doesn't fit the part its of the other rule."""
    n = lacking_size(rule, part, other, its)
    if n is not None:
        return "size", least_ring(rule, part, n)
    if not is_own_mirror(other, its):
        # A part that isn't its own mirror fits by its sizes alone: this one is.
        return ("side",)
    able = turning_shifts(rule, part, other, its)
    if len(able) == 0:
        return "way", way_to_mirror(rule, parts(rule)[part][0])
    return "axes", tuple([mirror_ring(rule, part, other, its, shift) for shift in able])


def way_to_mirror(rule, mark):
    """The least of the shortest walks from a mark to its mirror, which is in its part, too."""
    n = 0
    walk = least_walk(rule, mark, rule.mirror(mark), n)
    while walk is None:
        n += 1
        walk = least_walk(rule, mark, rule.mirror(mark), n)
    return walk


def mirror_ring(rule, part, other, its, shift):
    """A ring in the part and its axis, of which the part its, so shifted, has none; for a shift that isn't good."""
    first, n = lacking_mirror(rule, part, other, its, shift)
    half = least_half(rule, part, first, n)
    return unfolded(rule, half, first, n), half_axis(first, n)
