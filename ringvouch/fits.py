"""Fitting: whether rings in a part of a rule can be told as rings in a part of another one."""

from ringvouch.axes import axis_classes
from ringvouch.classing import period, turning
from ringvouch.halves import mirror_sizes
from ringvouch.parts import is_own_mirror, mirror_part
from ringvouch.sizes import sizes
from ringvouch.spans import span


def far_enough(rule, part, other, its):
    """A number such that a size or mirror size of the part that the other part lacks is at most that, if any is."""
    # From a span on sizes, from twice a span on mirror sizes, come again and again by twice the period;
    # and two sizes that are a period apart are both sizes of the other part only if its period parts this one.
    return 2 * max(span(rule, part), span(other, its)) + 2 * period(rule, part)


def lacking_size(rule, part, other, its):
    """The least size of the part that is no size of the other part, None where there is none."""
    most = far_enough(rule, part, other, its)
    known = sizes(other, its, most)
    for n in sizes(rule, part, most):
        if n not in known:
            return n
    return None


def turning_shifts(rule, part, other, its):
    """The shifts by which the other part's turning is that of the part."""
    its_period = period(other, its)
    off = turning(other, its) - turning(rule, part)
    return [shift for shift in range(its_period) if (off - 2 * shift) % its_period == 0]


def lacking_mirror(rule, part, other, its, shift):
    """An axis class and a mirror size of it in the part that the other part, so shifted, lacks, None of none."""
    most = far_enough(rule, part, other, its)
    for first in axis_classes(rule, part):
        known = mirror_sizes(other, its, shifted_axis(first, shift, period(other, its)), most)
        for n in mirror_sizes(rule, part, first, most):
            if n not in known:
                return first, n
    return None


def shifted_axis(first, shift, its_period):
    """The axis class, in a part of such a period, to which a shift leads the axis class first."""
    return (first + 2 * shift) % (2 * its_period)


def good_shifts(rule, part, other, its):
    """All shifts by which the part fits the other part."""
    if lacking_size(rule, part, other, its) is not None:
        return []
    if not is_own_mirror(rule, part):
        return list(range(period(other, its)))
    if not is_own_mirror(other, its):
        return []
    able = turning_shifts(rule, part, other, its)
    return [shift for shift in able if lacking_mirror(rule, part, other, its, shift) is None]


def fits(rule, part, other, its, shift):
    """Whether the part fits the part its of the other rule by the shift."""
    return shift in good_shifts(rule, part, other, its)


def mirror_pair(rule, part, other, pair):
    """The pair that a plan has for the mirror part of a part for which it has this pair."""
    its, shift = pair
    back = turning(other, its) - turning(rule, part) - shift
    return mirror_part(other, its), back % period(other, its)
