"""A house: a ring that is changed again and again, and what a looker tells of it as it is."""

from ringvouch.errors import NoBack, NoPlace, NoRing
from ringvouch.kinds import is_whole
from ringvouch.lookers import Looker
from ringvouch.rings import is_ring

MOST_HOUSED = 3000


class House:
    """A ring of one run of marks of the rule and a looker from the rule to the other one."""

    def __init__(self, rule, other, marks, *, plan=None):
        self.looker = Looker(rule, other, plan=plan)
        check_housed(rule, marks)
        self.row = marks
        # Of each put that stands: from which place on, which marks were taken out, how many were put there.
        self.changes = []

    def put(self, at, out, marks):
        """Takes the out marks from place at on out, and puts these there."""
        check_places(at, out, len(self.row))
        if not isinstance(marks, tuple):
            raise NoRing("the marks put aren't a tuple")
        coming = self.row[:at] + marks + self.row[at + out:]
        check_housed(self.looker.rule, coming)
        self.changes.append((at, self.row[at:at + out], len(marks)))
        self.row = coming

    def back(self):
        """Takes the last put that stands back."""
        if len(self.changes) == 0:
            raise NoBack("no put stands")
        self.row = self.row_ahead()
        self.changes.pop()

    def row_ahead(self):
        """The marks as they were ahead of the last put that stands."""
        at, taken, many = self.changes[-1]
        return self.row[:at] + taken + self.row[at + many:]

    def marks(self):
        """The marks from place 0 on, as they are."""
        return self.row

    def deeds(self):
        """How many puts stand."""
        return len(self.changes)

    def told(self, place):
        """The mark told at the place."""
        return self.looker.told(((1, self.row),), place)

    def told_all(self):
        """The tuple of the marks told from place 0 on."""
        return self.looker.told_all(((1, self.row),))

    def moved(self):
        """How far from the marks of the last put that stands the farthest place is where another mark is told now."""
        if len(self.changes) == 0:
            return 0
        at, taken, many = self.changes[-1]
        elder = self.looker.told_all(((1, self.row_ahead()),))
        # What was there ahead of the put and still is, from right behind the marks put on round the ring.
        then = elder[at + len(taken):] + elder[:at]
        told = self.told_all()
        now = told[at + many:] + told[:at]
        off = [min(k + 1, len(now) - k) for k in range(len(now)) if now[k] != then[k]]
        return max(off, default=0)


def check_housed(rule, marks):
    """Refuses what is no tuple of 1 to 3000 marks that is a ring of the rule."""
    if not is_ring(rule, ((1, marks),)) or len(marks) > MOST_HOUSED:
        raise NoRing("this is no ring of 1 to 3000 places of the house's rule")


def check_places(at, out, many):
    """Refuses what are no places of so many that could be taken out."""
    if not is_whole(at) or not is_whole(out) or at < 0 or out < 0 or at + out > many:
        raise NoPlace("there are no such places to take out")
