"""Lookers: at each place of a ring of a rule, from the marks near by alone, a mark of another rule is told."""

from ringvouch.errors import NoLooker, NoPlan, NoRing, TooMany
from ringvouch.judging import judged
from ringvouch.looks import shows_plan
from ringvouch.rings import around, is_ring, places, stretch
from ringvouch.weaving import Weaver

MOST_TOLD = 3000


class Looker:
    """A looker from the rule to the other one by its value plan."""

    def __init__(self, rule, other, *, plan=None):
        self.rule = rule
        self.other = other
        self.plan = plan_to_look_by(rule, other, plan)
        self.weaver = Weaver(rule, other, self.plan)

    def reach(self):
        """How many places to either side it looks."""
        return self.weaver.sight_reach()

    def near(self, marks):
        """The mark told in the midst of 2 * reach + 1 marks."""
        return self.weaver.woven(marks, self.reach(), self.reach() + 1)[0]

    def told(self, ring, place):
        """The mark told at the place of the ring."""
        self.check(ring)
        return self.near(around(ring, place, self.reach()))

    def told_all(self, ring):
        """The tuple of the marks told from place 0 of the ring on."""
        self.check(ring)
        many = places(ring)
        if many > MOST_TOLD:
            raise TooMany("all marks are told of rings of at most 3000 places")
        far = self.reach()
        return self.weaver.woven(stretch(ring, -far, many + 2 * far), far, far + many)

    def check(self, ring):
        """Refuses what is no ring of the rule."""
        if not is_ring(self.rule, ring):
            raise NoRing("this is no ring of the looker's rule")


def plan_to_look_by(rule, other, plan):
    """The plan handed in, or the one that is judged where none is."""
    if plan is None:
        word, found = judged(rule, other)
        if word != "plan":
            raise NoLooker("there is no plan from the rule to the other one")
        return found
    if not shows_plan(rule, other, plan):
        raise NoPlan("this is no plan from the rule to the other one")
    return plan
