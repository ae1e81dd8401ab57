"""Posts: half places of a ring, neither near to one another nor far from wild places, found by looks near by."""

from ringvouch.errors import TooMany
from ringvouch.rings import places, stretch
from ringvouch.sights import Sight
from ringvouch.spans import doublings

MOST_PLACES = 3000
# So often is a name of at most 3 * (14 * 50 + 1) figures shortened till its number is below 6.
SHORTENINGS = 5
RANKS = 7
MARK_FIGURES = 3


def posts(rule, span, ring):
    """The rising tuple of the posts of the ring for the span."""
    many = places(ring)
    if many > MOST_PLACES:
        raise TooMany("posts are told of rings of at most 3000 places")
    margin = post_margin(span)
    row = stretch(ring, -margin, many + 2 * margin)
    found = posts_in(Sight(rule, span, row))
    return tuple([s - 2 * margin for s in found if 2 * margin <= s < 2 * (margin + many)])


def post_margin(wide):
    """How many marks to either side of a place posts_in must know to be right there."""
    # Centres near wild places and places far from these take 10 spans, each thinning 11 links of less than a span.
    return 12 * wide * (doublings(wide) + 1)


def posts_in(sight):
    """The rising list of the posts in a row of marks, right where the row goes on far enough to either side."""
    wild = wild_flags(sight)
    centres = centre_flags(sight, wild)
    left = [place for place, flag in enumerate(wild) if flag == "1" and is_free(centres, place, sight.wide)]
    names = names_of(left, sight)
    for turn in range(doublings(sight.wide)):
        left = thinned(left, names, sight.wide)
    return sorted([s for s, flag in enumerate(centres) if flag == "1"] + [2 * place for place in left])


def wild_flags(sight):
    """A text of a figure for each place of the row: 1 where it is wild, 0 also where too little of it is seen."""
    far = 8 * sight.wide
    inner = ["1" if sight.is_wild(place) else "0" for place in range(far, len(sight.row) - far)]
    return "0" * far + "".join(inner) + "0" * far


def centre_flags(sight, wild):
    """A text of a figure for each half place of the row: 1 where a centre has a wild place less than 2 spans off."""
    near = [is_near(wild, s, sight.wide) and sight.is_centre_at(s) for s in range(2 * len(sight.row))]
    return "".join(["1" if flag else "0" for flag in near])


def is_near(wild, s, wide):
    """Whether a wild place is less than 2 * wide halves from the half place s."""
    first = (s - 2 * wide) // 2 + 1
    return wild.find("1", max(0, first), (s + 2 * wide + 1) // 2) >= 0


def is_free(centres, place, wide):
    """Whether no flagged centre is less than 2 * wide halves from the place."""
    return centres.find("1", max(0, 2 * place - 2 * wide + 1), 2 * place + 2 * wide) < 0


def thinned(left, names, wide):
    """Those of the places left that are kept: no two linked ones, and each other one is linked to a kept one."""
    linked = links(left, wide)
    lesser_ones = [[at for at in linked[k] if names[left[at]] < names[place]] for k, place in enumerate(left)]
    numbers = shortened([names[place] for place in left], lesser_ones)
    # A place between two of lesser names has no lead, so its number may be that of a neighbour: it comes last.
    ranks = [RANKS - 1 if len(lesser_ones[k]) == 2 else numbers[k] for k in range(len(left))]
    kept = [False] * len(left)
    for rank in range(RANKS):
        for k in range(len(left)):
            if ranks[k] == rank:
                kept[k] = not any([kept[at] for at in linked[k]])
    return [place for place, stays in zip(left, kept) if stays]


def links(left, wide):
    """For each place left the numbers of the next ones to either side that are less than wide places off."""
    found = [[] for place in left]
    for k in range(1, len(left)):
        if left[k] - left[k - 1] < wide:
            found[k - 1].append(k)
            found[k].append(k - 1)
    return found


def names_of(left, sight):
    """For each place left its name: the lesser of the marks around it, read from either side, as a number."""
    far = 7 * sight.wide
    many = len(sight.row)
    ahead = number_of(sight.text)
    behind = number_of(sight.text_back)
    within = (1 << MARK_FIGURES * (2 * far + 1)) - 1
    found = {}
    for place in left:
        one = ahead >> MARK_FIGURES * (many - place - far - 1)
        other = behind >> MARK_FIGURES * (place - far)
        found[place] = min(one & within, other & within)
    return found


def number_of(text):
    """The number of which each sign of the text is so many figures to the base 2 as a mark has."""
    number = 0
    for sign in text:
        number = (number << MARK_FIGURES) + int(sign)
    return number


def shortened(names, lesser_ones):
    """Numbers below 6, unlike for each place that has just one lesser neighbour and for that."""
    numbers = names
    for turn in range(SHORTENINGS):
        coming = []
        for k in range(len(numbers)):
            lead = numbers[lesser_ones[k][0]] if len(lesser_ones[k]) == 1 else None
            coming.append(shorter(numbers[k], lead))
        numbers = coming
    return numbers


def shorter(number, lead):
    """Twice the place of the first figure to the base 2 in which number and lead are unlike, and number's there."""
    at = 0
    if lead is not None:
        unlike = number ^ lead
        at = (unlike & -unlike).bit_length() - 1
    return 2 * at + (number >> at & 1)
