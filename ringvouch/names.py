"""Names of rows of marks: their periods, their least turns, and how they are read from the other side."""


def borders(marks):
    """For each beginning of the marks: how long the longest shorter beginning is that it ends with."""
    found = [0]
    for mark in marks[1:]:
        matched = found[-1]
        while matched > 0 and marks[matched] != mark:
            matched = found[matched - 1]
        found.append(matched + 1 if marks[matched] == mark else 0)
    return found


def least_period(marks):
    """The least p from 1 such that each mark is the one p places on, as far as there is one."""
    return len(marks) - borders(marks)[-1]


def least_turn(marks):
    """The least tuple that comes of the marks by turning them as a ring."""
    least = marks
    for at in range(1, len(marks)):
        turn = marks[at:] + marks[:at]
        if turn < least:
            least = turn
    return least


def read_back(rule, marks):
    """The mirrors of the marks, from behind."""
    return tuple([rule.mirror(mark) for mark in marks[::-1]])


def lesser(rule, marks):
    """The marks as read from the side from which they are less."""
    return min(marks, read_back(rule, marks))


def is_tame(span, marks):
    """Whether these 8 * span + 1 marks have a least period of at most 2 * span."""
    return least_period(marks) <= 2 * span


def is_centre(rule, marks):
    """Whether the marks are the same from both sides."""
    return read_back(rule, marks) == marks
