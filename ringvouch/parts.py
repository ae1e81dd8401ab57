"""Parts of a rule: all marks that lead to one another, and to themselves."""


def led_to(rule, mark):
    """The marks to which walks of one step or more lead from this one."""
    found = list(rule.behind(mark))
    at = 0
    while at < len(found):
        fresh = [other for other in rule.behind(found[at]) if other not in found]
        found.extend(fresh)
        at += 1
    return found


def parts(rule):
    """The tuple of all parts, each a rising tuple of marks, rising."""
    every = list(range(rule.marks()))
    ways = [led_to(rule, mark) for mark in every]
    found = []
    for mark in every:
        # A mark that doesn't lead to itself has nobody here, else itself among the others.
        part = tuple([other for other in every if other in ways[mark] and mark in ways[other]])
        if len(part) > 0 and part[0] == mark:
            found.append(part)
    return tuple(found)


def part_of(rule, mark):
    """The number of the part in which the mark is, None where it is in none."""
    for number, part in enumerate(parts(rule)):
        if mark in part:
            return number
    return None


def mirror_part(rule, part):
    """The number of the part of the mirrors of this part's marks."""
    mark = parts(rule)[part][0]
    return part_of(rule, rule.mirror(mark))


def is_own_mirror(rule, part):
    """Whether the part is its own mirror."""
    return mirror_part(rule, part) == part
