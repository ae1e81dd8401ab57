"""Rules by rules: which leads to which, and rules and plans put together."""

from ringvouch.classing import period
from ringvouch.errors import TooMany
from ringvouch.judging import judged
from ringvouch.rules import MOST_MARKS, Rule


def leads(rule, other):
    """Whether there is a plan from the rule to the other one."""
    return judged(rule, other)[0] == "plan"


def as_good(one, other):
    """Whether each of the two leads to the other."""
    return leads(one, other) and leads(other, one)


def either(one, other):
    """The rule of the marks of both, each with its own steps, those of other counted on behind one's."""
    many = one.marks()
    check_marks(many + other.marks())
    mirrors = one.mirrors + tuple([many + mirror for mirror in other.mirrors])
    return Rule(mirrors, one.steps + tuple([(many + a, many + b) for a, b in other.steps]))


def both(one, other):
    """The rule whose marks are pairs of a mark of one and one of other, with mirrors and steps in both."""
    many = other.marks()
    check_marks(one.marks() * many)
    mirrors = [a * many + b for a in one.mirrors for b in other.mirrors]
    steps = [(a * many + b, c * many + d) for a, c in one.steps for b, d in other.steps]
    return Rule(tuple(mirrors), tuple(sorted(steps)))


def check_marks(many):
    """Refuses more marks than a rule can have."""
    if many > MOST_MARKS:
        raise TooMany("a rule has at most eight marks")


def plan_behind(rule, middle, other, first, second):
    """The plan from the rule to the other one that leads by both plans, the first one to the middle rule."""
    return tuple([pair_behind(other, pair, second[pair[0]]) for pair in first])


def pair_behind(other, first, second):
    """The pair of a plan that leads by a pair of a first plan and by that of a second one behind it."""
    its = second[0]
    return its, (first[1] + second[1]) % period(other, its)
