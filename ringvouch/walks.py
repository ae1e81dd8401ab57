"""Walks: marks each of which may stand right behind the one ahead."""

from ringvouch.reaching import ends_of_walks


def has_walk(rule, one, other, n):
    """Whether there is a walk of n steps from mark one to mark other."""
    return n >= 0 and other in ends_of_walks(rule, n)[one]


def beginnings(rule, ends, n):
    """For each number of steps from 0 to n: the marks from which so many lead to one of the ends."""
    found = [tuple(ends)]
    for at in range(n):
        ahead = found[at]
        found.append(tuple([mark for mark in range(rule.marks()) if leads_into(rule, mark, ahead)]))
    return found


def leads_into(rule, mark, marks):
    """Whether one of the marks may stand right behind this one."""
    return any([coming in marks for coming in rule.behind(mark)])


def least_between(rule, starts, ends, n):
    """The least walk of n steps from one of the starts to one of the ends, None where there is none."""
    begun = beginnings(rule, ends, n)
    able = [mark for mark in starts if mark in begun[n]]
    if len(able) == 0:
        return None
    walk = [min(able)]
    for left in range(n - 1, -1, -1):
        walk.append(min([mark for mark in rule.behind(walk[-1]) if mark in begun[left]]))
    return tuple(walk)


def least_walk(rule, one, other, n):
    """The least walk of n steps from mark one to mark other, None where there is none."""
    if n < 0:
        return None
    return least_between(rule, (one,), (other,), n)
