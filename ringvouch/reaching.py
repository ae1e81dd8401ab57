"""Where walks of so many steps end: for each mark the rising tuple of the marks to which they lead."""


def ends_at_once(rule):
    """The ends of walks of no step: each mark alone."""
    return tuple([(mark,) for mark in range(rule.marks())])


def ends_of_steps(rule):
    """The ends of walks of one step."""
    return tuple([rule.behind(mark) for mark in range(rule.marks())])


def ends_behind(first, second):
    """The ends of walks of the first kind with one of the second kind behind each."""
    return tuple([tuple(sorted({end for mark in row for end in second[mark]})) for row in first])


def ends_of_walks(rule, n):
    """The ends of walks of n steps; n may have thirty figures, so walks are doubled, not gone step by step."""
    found = ends_at_once(rule)
    doubled = ends_of_steps(rule)
    while n > 0:
        if n % 2 == 1:
            found = ends_behind(found, doubled)
        doubled = ends_behind(doubled, doubled)
        n //= 2
    return found
