"""Tables: which mark is told for the marks around a place, row by row; right ones, found and put behind one another."""

from ringvouch.errors import TooFar, TooMany
from ringvouch.judging import judged
from ringvouch.kinds import are_marks, is_below, is_pair
from ringvouch.names import read_back
from ringvouch.parts import mirror_part, parts
from ringvouch.rings import places, stretch
from ringvouch.solving import solved

MOST_FAR = 2
MOST_TOLD = 3000
MOST_ROWS = 27


def walks_within(rule, marks, n):
    """The rising list of all walks of n steps within the part that has these marks."""
    inner = {mark: [coming for coming in rule.behind(mark) if coming in marks] for mark in marks}
    walks = [(mark,) for mark in marks]
    for step in range(n):
        walks = [walk + (mark,) for walk in walks for mark in inner[walk[-1]]]
    return walks


def walks_in_parts(rule, n):
    """The rising list of all walks of n steps within one part of the rule."""
    return sorted([walk for marks in parts(rule) for walk in walks_within(rule, marks, n)])


def shows_table(rule, other, thing):
    """Whether thing, which may be anything, is a right table from the rule to the other one."""
    if not isinstance(thing, tuple) or len(thing) != 3:
        return False
    word, far, rows = thing
    if not isinstance(word, str) or word != "table" or not is_below(far, MOST_FAR + 1):
        return False
    walks = walks_in_parts(rule, 2 * far)
    if not isinstance(rows, tuple) or len(rows) != len(walks):
        return False
    if not all([is_row(rule, other, walk, row) for walk, row in zip(walks, rows)]):
        return False
    found = dict(rows)
    return tells_mirrors(rule, other, found) and tells_steps(rule, other, found, far)


def is_row(rule, other, walk, thing):
    """Whether thing is a pair of just this walk and a mark of the other rule."""
    if not is_pair(thing) or not are_marks(thing[0], rule.marks()):
        return False
    return thing[0] == walk and is_below(thing[1], other.marks())


def tells_mirrors(rule, other, found):
    """Whether of read back marks the mirrors of what is told of the marks are told."""
    return all([found[read_back(rule, marks)] == other.mirror(found[marks]) for marks in found])


def tells_steps(rule, other, found, far):
    """Whether what is told along each walk that is one step longer than the rows may stand so."""
    longer = walks_in_parts(rule, 2 * far + 1)
    return all([found[walk[1:]] in other.behind(found[walk[:-1]]) for walk in longer])


def told_by(table, ring):
    """The tuple of all that a right table tells of a ring of its rule, from place 0 on."""
    many = places(ring)
    if many > MOST_TOLD:
        raise TooMany("all marks are told of rings of at most 3000 places")
    far = table[1]
    return told_along(dict(table[2]), far, stretch(ring, -far, many + 2 * far))


def told_along(found, far, row):
    """The tuple of what the rows of a table tell along a row of marks, where far marks stand to either side."""
    return tuple([found[row[at:at + 2 * far + 1]] for at in range(len(row) - 2 * far)])


def table_of(rule, other, far):
    """A right table from the rule to the other one that looks so far, None where there is none."""
    if len(walks_in_parts(rule, 2 * far)) > MOST_ROWS:
        raise TooMany("tables of at most 27 rows are looked for")
    # Where there is a table there is a plan; the search for one that isn't there can be long.
    if judged(rule, other)[0] == "none":
        return None
    found = {}
    for part, marks in enumerate(parts(rule)):
        # A part and its mirror part hang together and no two others do, so each such pair is solved by itself.
        if mirror_part(rule, part) >= part:
            its = told_for_part(rule, other, marks, far)
            if its is None:
                return None
            found.update(its)
    return "table", far, tuple([(walk, found[walk]) for walk in sorted(found)])


def told_for_part(rule, other, marks, far):
    """What can be told of each walk within the part and of each one read back; None where nothing can."""
    walks = walks_within(rule, marks, 2 * far)
    links = [(walk[:-1], walk[1:]) for walk in walks_within(rule, marks, 2 * far + 1)]
    mirrors = [(walk, read_back(rule, walk)) for walk in walks]
    told = solved(other, walks, links, [pair for pair in mirrors if pair[1] in walks])
    if told is None:
        return None
    for walk, back in mirrors:
        told[back] = other.mirror(told[walk])
    return told


def put_behind(rule, first, second):
    """The table from the rule that tells what the second one tells of what the first one tells."""
    far = first[1] + second[1]
    if far > MOST_FAR:
        raise TooFar("a table looks at most 2 places to either side")
    near_rows = dict(first[2])
    far_rows = dict(second[2])
    walks = walks_in_parts(rule, 2 * far)
    return "table", far, tuple([(walk, far_rows[told_along(near_rows, first[1], walk)]) for walk in walks])
