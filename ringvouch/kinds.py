"""What kind of thing something is, asked of anything at all."""


def is_whole(thing):
    """Whether thing is a whole number: Python counts truths among the ints, the document doesn't."""
    return isinstance(thing, int) and not isinstance(thing, bool)


def is_mark(thing, many):
    """Whether thing is one of the marks of a rule that has so many."""
    return is_whole(thing) and 0 <= thing < many


def are_marks(thing, many):
    """Whether thing is a tuple of one or more marks of a rule that has so many."""
    return isinstance(thing, tuple) and len(thing) > 0 and all([is_mark(mark, many) for mark in thing])
