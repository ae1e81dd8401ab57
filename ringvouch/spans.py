"""Spans: from how many steps on walks lead everywhere in a part."""

from ringvouch.classing import classes, period
from ringvouch.parts import parts
from ringvouch.reaching import ends_behind, ends_of_steps


def span(rule, part):
    """The least T from 1 from which on walks of n steps lead to each mark of the part whose class is n on."""
    its_period = period(rule, part)
    known = list(zip(parts(rule)[part], classes(rule, part)))
    step = ends_of_steps(rule)
    ends = step
    n = 1
    # Where n steps lead everywhere so do n + 1, a step first: so the first such n is the one.
    while not lead_everywhere(ends, known, its_period, n):
        ends = ends_behind(ends, step)
        n += 1
    return n


def lead_everywhere(ends, known, its_period, n):
    """Whether walks of n steps, which have such ends, lead from each known mark to all whose class is n on."""
    for one, its_class in known:
        wanted = (its_class + n) % its_period
        if not all([other in ends[one] for other, k in known if k == wanted]):
            return False
    return True


def doublings(span):
    """The least m from 0 for which 2 to the power of m is span or more."""
    return (span - 1).bit_length()
