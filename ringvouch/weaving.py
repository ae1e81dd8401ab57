"""Weaving: the marks of another rule told along a row of marks, by a plan, from posts and tame stretches."""

from ringvouch.axes import axes, is_at_axis
from ringvouch.classing import classes, period
from ringvouch.halves import least_half, unfolded
from ringvouch.names import least_period, least_turn, read_back
from ringvouch.parts import parts
from ringvouch.posts import posts_in
from ringvouch.sights import Sight
from ringvouch.spans import doublings, span
from ringvouch.walks import least_walk


class Weaver:
    """Tells marks of the other rule along rows of marks of the rule, each row in one part."""

    def __init__(self, rule, other, plan):
        self.rule = rule
        self.other = other
        self.wide = max([span(other, its) for its, shift in plan], default=0)
        self.wanted = wanted_classes(rule, other, plan)
        self.takers = marks_by_class(other)

    def ramp(self):
        """From how many places behind a post on all places are tame, where the next post is far."""
        return self.wide * (doublings(self.wide) + 2)

    def far(self):
        """From how many places between them on two posts are far from one another."""
        return 4 * self.ramp()

    def sight_reach(self):
        """How many marks to either side of a place must be known to tell its mark."""
        # Posts less than far places off are looked for, and a post is found by marks fewer than 12 ramps off.
        return 16 * self.ramp()

    def woven(self, row, first, end):
        """The tuple of what is told at the places from first to the one ahead of end of the row."""
        sight = Sight(self.rule, self.wide, row)
        low = 2 * (first - self.far() - 1)
        high = 2 * (end + self.far())
        stops = [self.stop_at(sight, s) for s in posts_in(sight) if low <= s <= high]
        told = {}
        for one, two in zip([None] + stops, stops + [None]):
            if (two is None or two[0] >= first) and (one is None or one[1] < end):
                self.weave(sight, one, two, (first, end), told)
        return tuple([told[place] for place in range(first, end)])

    def stop_at(self, sight, s):
        """What is told at the post s: its first place, its last place, the mark at the first, that at the last."""
        first = s // 2
        last = (s + 1) // 2
        if sight.is_centre_at(s):
            mark = self.axis_mark(sight, s)
            return first, last, mark, mark if first == last else self.other.mirror(mark)
        able = self.takers[self.wanted[sight.row[first]]]
        mark = min(able)
        if not sight.is_less_ahead(first - 7 * self.wide, first + 7 * self.wide + 1):
            mark = self.other.mirror(min([self.other.mirror(mark) for mark in able]))
        return first, last, mark, mark

    def axis_mark(self, sight, s):
        """The least mark of the class wanted through which, or behind which, an axis can go as one does at s."""
        able = self.takers[self.wanted[sight.row[s // 2]]]
        return min([mark for mark in able if is_at_axis(self.other, mark, s % 2)])

    def weave(self, sight, one, two, bounds, told):
        """Puts into told, by places, what is told from the last place of a stop to the first one of the next one."""
        # None stands for a post that is too far to be seen.
        if one is not None and two is not None and two[0] - one[1] < self.far():
            lay(told, one[1], self.between(sight, one, two))
        else:
            self.weave_far(sight, one, two, bounds, told)

    def between(self, sight, one, two):
        """The walk from the last mark of a stop to the first one of the next one, which is near."""
        first = one[0] - 7 * self.wide
        end = two[1] + 7 * self.wide + 1
        if sight.is_alike(first, end):
            return self.between_alike(sight, one, one[0] + two[1])
        if sight.is_less_ahead(first, end):
            return least_walk(self.other, one[3], two[2], two[0] - one[1])
        return self.walk_back(two[2], one[3], two[0] - one[1])

    def between_alike(self, sight, one, s):
        """That walk where all is the same from both sides: s is the midst, a centre."""
        mark = self.axis_mark(sight, s)
        half = least_walk(self.other, one[3], mark, s // 2 - one[1])
        # A mark on the axis is told once.
        return half + read_back(self.other, half)[1 - s % 2:]

    def walk_back(self, one, two, steps):
        """The walk that comes to mark one from two, the least as read from the other side, from one on."""
        walk = least_walk(self.other, self.other.mirror(one), self.other.mirror(two), steps)
        return read_back(self.other, walk)

    def weave_far(self, sight, one, two, bounds, told):
        """Puts into told what is told between stops far from one another: a ring again and again, and ways to it."""
        first, end = bounds
        if one is not None:
            first = one[1] + self.ramp()
        if two is not None:
            end = two[0] - self.ramp() + 1
        # One of these is far from all posts, also where only the ramp to it lies within the bounds.
        anchor = first if one is not None else end - 1
        round_told = self.ring_at(sight, anchor)
        many = len(round_told)
        for place in range(max(first, bounds[0]), min(end, bounds[1])):
            told[place] = round_told[(place - anchor) % many]
        if one is not None:
            lay(told, one[1], least_walk(self.other, one[3], round_told[(first - anchor) % many], self.ramp()))
        if two is not None:
            lay(told, end - 1, self.walk_back(two[2], round_told[(end - 1 - anchor) % many], self.ramp()))

    def ring_at(self, sight, place):
        """What is told from a tame place on, as far as its least period goes."""
        around = sight.row[place - 4 * self.wide:place + 4 * self.wide + 1]
        many = least_period(around)
        return self.ring_told(sight.row[place:place + many])

    def ring_told(self, marks):
        """The ring of the other rule told along these marks again and again, from where they begin."""
        ahead = least_turn(marks)
        behind = least_turn(read_back(self.rule, marks))
        if ahead == behind:
            return self.mirror_ring_told(marks)
        if behind < ahead:
            return read_back(self.other, self.least_ring_told(read_back(self.rule, marks), behind))
        return self.least_ring_told(marks, ahead)

    def least_ring_told(self, marks, least):
        """The least ring beginning with the class wanted where the least turn of the marks begins."""
        many = len(marks)
        start = [at for at in range(many) if marks[at:] + marks[:at] == least][0]
        found = [least_walk(self.other, mark, mark, many) for mark in self.takers[self.wanted[least[0]]]]
        walk = [walk for walk in found if walk is not None][0]
        return begun_at(walk[:-1], start)

    def mirror_ring_told(self, marks):
        """The mirror ring of the least half from the axis from which, read outward, the marks are less."""
        many = len(marks)
        s = min(axes(self.rule, marks), key=lambda at: outward(marks, at))
        its, its_class = self.wanted[marks[s // 2]]
        first = 2 * its_class + s % 2
        ring = unfolded(self.other, least_half(self.other, its, first, many), first, many)
        return begun_at(ring, (s + 1) // 2)


def lay(told, place, marks):
    """Puts the marks into told, from the place on."""
    for at, mark in enumerate(marks):
        told[place + at] = mark


def outward(marks, s):
    """The marks as a ring read from the half place s on."""
    start = (s + 1) // 2 % len(marks)
    return marks[start:] + marks[:start]


def begun_at(ring, start):
    """The marks of a ring turned so that its first one stands at the place start."""
    cut = -start % len(ring)
    return ring[cut:] + ring[:cut]


def wanted_classes(rule, other, plan):
    """For each mark in a part: the part of the other rule and the class there of what is to be told for it."""
    found = {}
    for part, (its, shift) in enumerate(plan):
        its_period = period(other, its)
        for mark, its_class in zip(parts(rule)[part], classes(rule, part)):
            found[mark] = (its, (its_class + shift) % its_period)
    return found


def marks_by_class(rule):
    """For each part and class: the rising list of its marks."""
    found = {}
    for part, marks in enumerate(parts(rule)):
        for mark, its_class in zip(marks, classes(rule, part)):
            found.setdefault((part, its_class), []).append(mark)
    return found
