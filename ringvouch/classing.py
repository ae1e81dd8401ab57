"""Periods of parts, and the classes of their marks by rests by the period."""

from ringvouch.parts import part_of, parts


def steps_off(rule, marks):
    """For each mark of the part that has these marks: how few steps it is from the least one."""
    least = marks[0]
    off = {least: 0}
    queue = [least]
    at = 0
    while at < len(queue):
        here = queue[at]
        for mark in rule.behind(here):
            # A step may lead out of the part, and never back into it.
            if mark in marks and mark not in off:
                off[mark] = off[here] + 1
                queue.append(mark)
        at += 1
    return off


def common_measure(one, other):
    """The greatest number that parts both."""
    while other > 0:
        one, other = other, one % other
    return one


def period(rule, part):
    """The greatest number that parts all sizes of the part."""
    marks = parts(rule)[part]
    off = steps_off(rule, marks)
    found = 0
    for a, b in rule.steps:
        if a in marks and b in marks:
            # Two ways from the least mark to b make, with one way back, two rings: so far apart in size.
            found = common_measure(found, abs(off[a] + 1 - off[b]))
    return found


def classes(rule, part):
    """The class of each mark of the part, in order: the least mark's is 0, one more along each step."""
    marks = parts(rule)[part]
    off = steps_off(rule, marks)
    its_period = period(rule, part)
    return tuple([off[mark] % its_period for mark in marks])


def class_of(rule, mark):
    """The class of a mark that is in some part."""
    part = part_of(rule, mark)
    at = parts(rule)[part].index(mark)
    return classes(rule, part)[at]


def turning(rule, part):
    """The rest by the period of the classes of a mark and of its mirror together."""
    mark = parts(rule)[part][0]
    return (class_of(rule, mark) + class_of(rule, rule.mirror(mark))) % period(rule, part)
