"""Rules: which marks there are, how each looks from the other side, which may stand behind which."""

from ringvouch.errors import NoRule
from ringvouch.kinds import are_marks

MOST_MARKS = 8


class Rule:
    """A rule by its values mirrors and steps."""

    def __init__(self, mirrors, steps):
        if not are_mirrors(mirrors):
            raise NoRule("mirrors")
        if not are_steps(mirrors, steps):
            raise NoRule("steps")
        self.mirrors = mirrors
        self.steps = steps
        # Told from the steps once, since nearly everything asks for it again and again.
        self.followers = tuple([marks_behind(steps, mark) for mark in range(len(mirrors))])

    def marks(self):
        """How many marks there are."""
        return len(self.mirrors)

    def mirror(self, mark):
        """What the mark looks like from the other side."""
        return self.mirrors[mark]

    def behind(self, mark):
        """The rising tuple of the marks that may stand right behind this one."""
        return self.followers[mark]

    def __eq__(self, other):
        return isinstance(other, Rule) and self.mirrors == other.mirrors and self.steps == other.steps


def are_mirrors(thing):
    """Whether thing, which may be anything, tells the mirrors of one to eight marks."""
    if not isinstance(thing, tuple) or len(thing) > MOST_MARKS:
        return False
    if not are_marks(thing, len(thing)):
        return False
    return all([thing[mirror] == mark for mark, mirror in enumerate(thing)])


def are_steps(mirrors, thing):
    """Whether thing, which may be anything, tells the steps of a rule that has these mirrors."""
    if not isinstance(thing, tuple):
        return False
    if not all([is_step(pair, len(mirrors)) for pair in thing]):
        return False
    if not is_rising(thing):
        return False
    return all([(mirrors[b], mirrors[a]) in thing for a, b in thing])


def is_step(thing, many):
    """Whether thing is a pair of marks of a rule that has so many."""
    return are_marks(thing, many) and len(thing) == 2


def is_rising(pairs):
    """Whether each pair is greater than the one ahead of it."""
    return all([one < other for one, other in zip(pairs, pairs[1:])])


def marks_behind(steps, mark):
    """The marks to which the steps lead from this one; rising, since the steps are."""
    return tuple([b for a, b in steps if a == mark])


def plain_rule(many, pairs):
    """The rule of so many marks, each its own mirror, where each of a pair may stand beside the other."""
    both_ways = list(pairs) + [(b, a) for a, b in pairs]
    return Rule(tuple(range(many)), tuple(sorted(set(both_ways))))


def one_way_rule(many, pairs):
    """The rule of so many marks and as many mirrors of them, by which whoever looks sees the direction."""
    mirrors = tuple(range(many, 2 * many)) + tuple(range(many))
    both_sides = list(pairs) + [(b + many, a + many) for a, b in pairs]
    return Rule(mirrors, tuple(sorted(set(both_sides))))
