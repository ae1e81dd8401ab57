"""A desk: two rules, perhaps a house of them, and lines that are answered by texts."""

from ringvouch.axes import axis_classes
from ringvouch.errors import NoHouse, NoLine
from ringvouch.halves import is_mirror_size, least_half
from ringvouch.houses import House
from ringvouch.judging import judged
from ringvouch.lookers import Looker
from ringvouch.parts import parts
from ringvouch.reading import marks_in, number_in, read_rule
from ringvouch.showing import NOTHING, show_marks, show_plan, show_reason
from ringvouch.sizes import is_size, least_ring, sizes

DONE = "done"
MOST = 300
# What stands behind the first word of each line: part P, axis U, small 0 to 300, few 1 to 300, one from 1 on, number.
FORMS = {
    "parts": (),
    "sizes": ("part", "small"),
    "size": ("part", "one"),
    "mirror": ("part", "axis", "one"),
    "ring": ("part", "few"),
    "half": ("part", "axis", "few"),
    "judged": (),
    "why": (),
    "reach": (),
    "begin": ("marks",),
    "put": ("number", "number", "marks"),
    "back": (),
    "marks": (),
    "all": (),
    "told": ("number",),
    "moved": (),
    "swap": (),
}
HOUSED = ("put", "back", "marks", "all", "told", "moved")


class Desk:
    """A desk for two rules, handed in as texts."""

    def __init__(self, rule, other):
        self.rule = read_rule(rule)
        self.other = read_rule(other)
        self.house = None

    def say(self, line):
        """The answer to the line."""
        word, values = understood(self.rule, line)
        if word in HOUSED:
            if self.house is None:
                raise NoHouse("no house has been begun")
            return housed(self.house, word, values)
        if word == "begin":
            self.house = House(self.rule, self.other, values[0])
            return DONE
        if word == "swap":
            self.rule, self.other = self.other, self.rule
            self.house = None
            return DONE
        if word in ("judged", "why", "reach"):
            return between(self.rule, self.other, word)
        return of_parts(self.rule, word, values)


def understood(rule, line):
    """The first word of a line, which may be anything, and the list of what the others write."""
    if not isinstance(line, str):
        raise NoLine("a line is a text")
    words = line.split(" ")
    word = words[0]
    if word not in FORMS or len(words) != len(FORMS[word]) + 1:
        raise NoLine("there is no such line")
    values = []
    for kind, written in zip(FORMS[word], words[1:]):
        value = marks_in(written) if kind == "marks" else number_in(written)
        if value is None or not is_of_kind(rule, kind, value, values):
            raise NoLine("a word of the line can't stand there")
        values.append(value)
    return word, values


def is_of_kind(rule, kind, value, ahead):
    """Whether the value is one that the kind wants, behind these values ahead of it."""
    if kind == "part":
        return value < len(parts(rule))
    if kind == "axis":
        return value in axis_classes(rule, ahead[0])
    if kind in ("one", "few") and value < 1:
        return False
    return kind not in ("small", "few") or value <= MOST


def of_parts(rule, word, values):
    """The answer to a line about parts of the rule."""
    if word == "parts":
        return or_nothing("; ".join([show_marks(part) for part in parts(rule)]))
    if word == "sizes":
        return or_nothing(" ".join([str(n) for n in sizes(rule, values[0], values[1])]))
    if word == "size":
        return yes_or_no(is_size(rule, values[0], values[1]))
    if word == "mirror":
        return yes_or_no(is_mirror_size(rule, values[0], values[1], values[2]))
    if word == "ring":
        return marks_or_none(least_ring(rule, values[0], values[1]))
    return marks_or_none(least_half(rule, values[0], values[1], values[2]))


def between(rule, other, word):
    """The answer to a line about both rules."""
    if word == "reach":
        return str(Looker(rule, other).reach())
    verdict, found = judged(rule, other)
    if verdict == "none":
        return "none" if word == "judged" else show_paper(found)
    return f"plan {show_plan(found)}" if word == "judged" else "plan"


def show_paper(paper):
    """The part of a paper and its reasons."""
    part, reasons = paper
    return "; ".join([str(part)] + [show_reason(reason) for reason in reasons])


def housed(house, word, values):
    """The answer to a line about a house."""
    if word == "put":
        house.put(values[0], values[1], values[2])
        return DONE
    if word == "back":
        house.back()
        return DONE
    if word == "marks":
        return show_marks(house.marks())
    if word == "all":
        return show_marks(house.told_all())
    if word == "told":
        return str(house.told(values[0]))
    return str(house.moved())


def or_nothing(text):
    """The text, a dash where it is empty."""
    return NOTHING if text == "" else text


def yes_or_no(truth):
    """A truth as a word."""
    return "yes" if truth else "no"


def marks_or_none(marks):
    """The marks, a word where there are none."""
    return "none" if marks is None else show_marks(marks)
