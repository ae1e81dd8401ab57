"""Sights: a long row of marks as it is seen from both sides by somebody who knows a span."""

from ringvouch.names import read_back


class Sight:
    """A row of marks, its places counted from 0; wide is the span by which it is looked at."""

    def __init__(self, rule, wide, row):
        self.rule = rule
        self.wide = wide
        self.row = row
        # Texts are cut, compared and searched far faster than tuples, and are less just where these are.
        self.text = text_of(row)
        self.text_back = text_of(read_back(rule, row))

    def from_ahead(self, first, end):
        """The marks from the place first to the one ahead of end, as a text."""
        return self.text[first:end]

    def from_behind(self, first, end):
        """The same marks read from the other side."""
        many = len(self.row)
        return self.text_back[many - end:many - first]

    def is_less_ahead(self, first, end):
        """Whether these marks are less as read from ahead than from the other side."""
        return self.from_ahead(first, end) < self.from_behind(first, end)

    def is_alike(self, first, end):
        """Whether these marks are the same from both sides."""
        return self.from_ahead(first, end) == self.from_behind(first, end)

    def is_wild(self, place):
        """Whether the 8 * span + 1 marks around the place aren't tame."""
        first = place - 4 * self.wide
        end = place + 4 * self.wide + 1
        head = self.text[first:end - 2 * self.wide]
        found = self.text.find(head, first + 1, end)
        if found < 0:
            return True
        # Two periods of at most 2 * span would have a common measure as a period, too: so the first one found tells.
        return self.text[found:end] != self.text[first:first + end - found]

    def is_centre_at(self, s):
        """Whether the half place s is a centre."""
        far = 7 * self.wide
        return self.is_alike((s + 1) // 2 - far, s // 2 + far + 1)


def text_of(row):
    """The marks one right behind the other as a text."""
    return "".join([str(mark) for mark in row])
