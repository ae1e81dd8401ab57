"""Axes: where a ring is the same from both sides, and where those of a part's rings can stand."""

from ringvouch.classing import class_of, classes
from ringvouch.names import read_back
from ringvouch.parts import is_own_mirror, parts


def turned_to(marks, place):
    """The marks as a ring that begins at the place."""
    at = place % len(marks)
    return marks[at:] + marks[:at]


def is_mirrored(rule, marks, s):
    """Whether the marks as a ring are mirrored at s."""
    # The mirror of the last mark stands at s + 1 then, that of the one ahead of it at s + 2, and so on.
    return turned_to(marks, s + 1) == read_back(rule, marks)


def axes(rule, marks):
    """The rising tuple of all s at which the marks as a ring are mirrored."""
    back = read_back(rule, marks)
    return tuple([s for s in range(2 * len(marks)) if turned_to(marks, s + 1) == back])


def axis_class(rule, marks, s):
    """The axis class at s of a ring in some part."""
    return 2 * class_of(rule, marks[s // 2]) + s % 2


def is_at_axis(rule, mark, gap):
    """Whether an axis can go through the mark (gap 0), or through the gap right behind it (gap 1)."""
    if gap == 0:
        return rule.mirror(mark) == mark
    return rule.mirror(mark) in rule.behind(mark)


def axis_classes(rule, part):
    """The rising tuple of the axis classes that rings in the part can have; () of one that isn't its own mirror."""
    if not is_own_mirror(rule, part):
        return ()
    known = list(zip(parts(rule)[part], classes(rule, part)))
    return tuple(sorted({2 * k + gap for mark, k in known for gap in (0, 1) if is_at_axis(rule, mark, gap)}))
