"""Rings: runs of marks one behind the other, the first one behind the last one again."""

from ringvouch.errors import TooMany
from ringvouch.kinds import are_marks, is_whole

MOST_SPELLED = 6000


def is_ring(rule, thing):
    """Whether thing, which may be anything, is a ring of the rule."""
    if not isinstance(thing, tuple) or len(thing) == 0:
        return False
    if not all([is_run(rule, run) for run in thing]):
        return False
    return all([b in rule.behind(a) for a, b in neighbours(thing)])


def is_run(rule, thing):
    """Whether thing, which may be anything, is a run of marks of the rule."""
    if not isinstance(thing, tuple) or len(thing) != 2:
        return False
    times, marks = thing
    return is_whole(times) and times >= 1 and are_marks(marks, rule.marks())


def neighbours(ring):
    """Pairs of marks one right behind the other: each that the ring has, though not as often as it has it."""
    pairs = []
    for at, (times, marks) in enumerate(ring):
        pairs.extend(list(zip(marks, marks[1:])))
        if times > 1:
            pairs.append((marks[-1], marks[0]))
        coming = ring[(at + 1) % len(ring)][1]
        pairs.append((marks[-1], coming[0]))
    return pairs


def run_places(run):
    """How many places a run takes."""
    times, marks = run
    return times * len(marks)


def places(ring):
    """How many places there are round the ring."""
    return sum([run_places(run) for run in ring])


def spot(ring, place):
    """The number of the run in which the place stands, and how many of that run's places are ahead of it."""
    at = 0
    inside = place % places(ring)
    while inside >= run_places(ring[at]):
        inside -= run_places(ring[at])
        at += 1
    return at, inside


def mark_at(ring, place):
    """The mark at the place, counted on round the ring."""
    at, inside = spot(ring, place)
    marks = ring[at][1]
    return marks[inside % len(marks)]


def stretch(ring, first, many):
    """The tuple of so many marks from the place first on, round the ring as often as wanted."""
    at, inside = spot(ring, first)
    found = []
    while len(found) < many:
        marks = ring[at][1]
        wanted = min(many - len(found), run_places(ring[at]) - inside)
        start = inside % len(marks)
        # A run may have thirty figures of times: no more of it is written out than is wanted.
        rounds = (start + wanted) // len(marks) + 1
        found.extend((marks * rounds)[start:start + wanted])
        at = (at + 1) % len(ring)
        inside = 0
    return tuple(found)


def around(ring, place, far):
    """The marks from far places ahead of the place to far places behind it."""
    return stretch(ring, place - far, 2 * far + 1)


def turned(ring, by):
    """The ring that begins at the place by of this one."""
    at, inside = spot(ring, by)
    times, marks = ring[at]
    rounds, rest = divmod(inside, len(marks))
    begun = ((1, marks[rest:]), (times - rounds - 1, marks))
    left = ((rounds, marks), (1, marks[:rest]))
    runs = begun + ring[at + 1:] + ring[:at] + left
    # Where the cut falls on the edge of a run or of a round some of these are empty.
    return tuple([run for run in runs if run_places(run) > 0])


def mirrored(rule, ring):
    """The ring read from the other side."""
    return tuple([(times, tuple([rule.mirror(mark) for mark in marks[::-1]])) for times, marks in ring[::-1]])


def spelled(ring):
    """The tuple of all marks of the ring from place 0 on."""
    many = places(ring)
    if many > MOST_SPELLED:
        raise TooMany("a ring of more than 6000 places isn't spelled")
    return stretch(ring, 0, many)
