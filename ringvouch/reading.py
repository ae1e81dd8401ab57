"""Reading: rules, rings and plans from just such texts as are shown of them; what is read may be anything."""

from ringvouch.errors import NoText
from ringvouch.kinds import are_marks
from ringvouch.rules import MOST_MARKS, Rule
from ringvouch.showing import NOTHING

FIGURES = "0123456789"
MOST_FIGURES = 30


def number_in(word):
    """The number that the word writes, None where it writes none."""
    # Python knows figures of other kinds, and refuses to read numbers of thousands of them.
    if not 0 < len(word) <= MOST_FIGURES or not all([sign in FIGURES for sign in word]):
        return None
    if len(word) > 1 and word[0] == "0":
        return None
    return int(word)


def numbers_in(words):
    """The tuple of the numbers that the words write, None where one writes none."""
    numbers = [number_in(word) for word in words]
    if any([number is None for number in numbers]):
        return None
    return tuple(numbers)


def marks_in(word):
    """The tuple of the numbers that the word writes as marks, None where it isn't so written."""
    if word == NOTHING:
        return ()
    return numbers_in(word.split("."))


def read_ring(text):
    """The ring that the text shows, of whatever rule."""
    if not isinstance(text, str):
        raise NoText(0)
    runs = [run_in(word) for word in text.split(" ")]
    if any([run is None for run in runs]):
        raise NoText(0)
    return tuple(runs)


def run_in(word):
    """The run that the word writes, None where it writes none."""
    first, star, rest = word.partition("*")
    times = number_in(first)
    marks = marks_in(rest)
    if times is None or times == 0 or not are_marks(marks, MOST_MARKS):
        return None
    return times, marks


def read_plan(text):
    """The plan that the text shows, of whatever rules."""
    if not isinstance(text, str):
        raise NoText(0)
    if text == NOTHING:
        return ()
    pairs = [numbers_in(word.split("/")) for word in text.split(" ")]
    if any([pair is None or len(pair) != 2 for pair in pairs]):
        raise NoText(0)
    return tuple(pairs)


def read_rule(text):
    """The rule that the text shows."""
    if not isinstance(text, str):
        raise NoText(0)
    rows = [row.split(" ") for row in text.split("\n")]
    many = first_row(rows[0])
    pairs = {"mirror": [], "step": []}
    for at in range(1, len(rows)):
        pair = numbers_in(rows[at][1:])
        if not can_stand(many, pairs, rows[at][0], pair):
            raise NoText(at)
        pairs[rows[at][0]].append(pair)
    mirrors = mirrors_by(many, pairs["mirror"])
    steps = pairs["step"]
    if not all([(mirrors[b], mirrors[a]) in steps for a, b in steps]):
        raise NoText(len(rows))
    return Rule(mirrors, tuple(steps))


def first_row(words):
    """How many marks the first row tells."""
    many = number_in(words[-1])
    if words[:-1] != ["marks"] or many is None or not 1 <= many <= MOST_MARKS:
        raise NoText(0)
    return many


def can_stand(many, pairs, word, pair):
    """Whether a row of the word and the pair can stand behind rows of these pairs in a rule of so many marks."""
    if word not in ("mirror", "step") or pair is None or len(pair) != 2 or not are_marks(pair, many):
        return False
    ahead = pairs[word]
    if len(ahead) > 0 and pair <= ahead[-1]:
        return False
    if word == "step":
        return True
    known = [mark for couple in ahead for mark in couple]
    return pair[0] < pair[1] and len(pairs["step"]) == 0 and pair[0] not in known and pair[1] not in known


def mirrors_by(many, pairs):
    """The mirrors of so many marks of which these pairs are each other's and all others their own."""
    mirrors = list(range(many))
    for a, b in pairs:
        mirrors[a] = b
        mirrors[b] = a
    return tuple(mirrors)
