"""What kind of thing something is, asked of anything at all."""


def is_whole(thing):
    """Whether thing is a whole number: Python counts truths among the ints, the document doesn't."""
    return isinstance(thing, int) and not isinstance(thing, bool)


def is_below(thing, many):
    """Whether thing is one of the first so many whole numbers: of marks, of parts, of half places."""
    return is_whole(thing) and 0 <= thing < many


def are_marks(thing, many):
    """Whether thing is a tuple of one or more marks of a rule that has so many."""
    return isinstance(thing, tuple) and len(thing) > 0 and all([is_below(mark, many) for mark in thing])


def is_pair(thing):
    """Whether thing is a tuple of two things, of whatever kind."""
    return isinstance(thing, tuple) and len(thing) == 2
