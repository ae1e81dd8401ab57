"""Looking at plans and papers, whoever made them; what is looked at may be anything."""

from ringvouch.axes import axis_class, is_mirrored
from ringvouch.classing import period, turning
from ringvouch.fits import fits, mirror_pair, shifted_axis, turning_shifts
from ringvouch.halves import is_mirror_size
from ringvouch.kinds import are_marks, is_below, is_pair, is_whole
from ringvouch.parts import is_own_mirror, mirror_part, parts
from ringvouch.rings import is_ring
from ringvouch.sizes import is_size


def shows_plan(rule, other, thing):
    """Whether thing is a plan from the rule to the other one."""
    if not isinstance(thing, tuple) or len(thing) != len(parts(rule)):
        return False
    if not all([is_plan_pair(other, pair) for pair in thing]):
        return False
    return all([stands(rule, part, other, thing) for part in range(len(thing))])


def is_plan_pair(other, thing):
    """Whether thing is a pair of the number of a part of the other rule and of some whole number."""
    return is_pair(thing) and is_below(thing[0], len(parts(other))) and is_whole(thing[1])


def stands(rule, part, other, plan):
    """Whether the part fits by its pair, and its mirror part, where it is another one, has the pair it must have."""
    its, shift = plan[part]
    if not fits(rule, part, other, its, shift):
        return False
    if is_own_mirror(rule, part):
        return True
    return plan[mirror_part(rule, part)] == mirror_pair(rule, part, other, plan[part])


def shows_paper(rule, other, thing):
    """Whether thing is a paper that there is no plan from the rule to the other one."""
    if not is_pair(thing):
        return False
    part, reasons = thing
    if not is_below(part, len(parts(rule))):
        return False
    if not isinstance(reasons, tuple) or len(reasons) != len(parts(other)):
        return False
    return all([is_reason(rule, part, other, its, reason) for its, reason in enumerate(reasons)])


def is_reason(rule, part, other, its, thing):
    """Whether thing is a reason why the part doesn't fit the part its of the other rule."""
    if not isinstance(thing, tuple) or len(thing) == 0 or not isinstance(thing[0], str):
        return False
    if thing[0] == "side":
        return len(thing) == 1 and is_own_mirror(rule, part) and not is_own_mirror(other, its)
    if len(thing) != 2:
        return False
    word, told = thing
    if word == "size":
        return is_ring_in(rule, part, told) and not is_size(other, its, len(told))
    if not is_own_mirror(rule, part) or not is_own_mirror(other, its):
        return False
    if word == "way":
        return is_way(rule, part, told) and makes_odd(other, its, len(told) - 1)
    return word == "axes" and are_lacking(rule, part, other, its, told)


def is_ring_in(rule, part, thing):
    """Whether thing is a tuple of marks that is a ring in the part."""
    # A ring stands in one part, so its first mark tells which.
    return is_ring(rule, ((1, thing),)) and thing[0] in parts(rule)[part]


def is_way(rule, part, thing):
    """Whether thing is a walk in the part from a mark to its mirror."""
    if not are_marks(thing, rule.marks()):
        return False
    if not all([mark in parts(rule)[part] for mark in sorted(set(thing))]):
        return False
    return thing[-1] == rule.mirror(thing[0]) and all([b in rule.behind(a) for a, b in zip(thing, thing[1:])])


def makes_odd(other, its, n):
    """Whether n steps and the turning of the part its make an odd number, its period being even."""
    return period(other, its) % 2 == 0 and (n + turning(other, its)) % 2 == 1


def are_lacking(rule, part, other, its, thing):
    """Whether thing is a tuple of a mirror ring that the part its lacks for each shift that the turnings leave."""
    if period(rule, part) % period(other, its) != 0:
        return False
    able = turning_shifts(rule, part, other, its)
    if not isinstance(thing, tuple) or len(thing) == 0 or len(thing) != len(able):
        return False
    return all([is_lacking(rule, part, other, its, shift, pair) for shift, pair in zip(able, thing)])


def is_lacking(rule, part, other, its, shift, thing):
    """Whether thing is a mirror ring in the part and its axis, of which the part its, so shifted, has none."""
    if not is_pair(thing) or not is_ring_in(rule, part, thing[0]):
        return False
    marks, s = thing
    if not is_below(s, 2 * len(marks)) or not is_mirrored(rule, marks, s):
        return False
    wanted = shifted_axis(axis_class(rule, marks, s), shift, period(other, its))
    return not is_mirror_size(other, its, wanted, len(marks))
