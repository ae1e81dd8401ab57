"""Solving: a mark of a rule for each of some names, so that named pairs are steps, and others mirrors."""


def solved(rule, names, links, mirrors):
    """A dict of a mark for each name: of each link a step, of each pair of mirrors mirrors; None where none is so."""
    every = list(range(rule.marks()))
    behind = [rule.behind(mark) for mark in every]
    ahead = [[other for other in every if mark in behind[other]] for mark in every]
    facing = [[rule.mirror(mark)] for mark in every]
    ties = {name: [] for name in names}
    for one, other in links:
        ties[one].append((other, behind))
        ties[other].append((one, ahead))
    for one, other in mirrors:
        ties[one].append((other, facing))
        ties[other].append((one, facing))
    able = {name: [mark for mark in every if fits_itself(mark, name, ties[name])] for name in names}
    found = settled(able, ties, names)
    if found is None:
        return None
    return {name: found[name][0] for name in names}


def fits_itself(mark, name, tied):
    """Whether the mark can be had by the name as far as that is tied to itself."""
    return all([mark in fitting[mark] for other, fitting in tied if other == name])


def settled(able, ties, changed):
    """One mark for each name out of those it is able to have, as a list of one; None where none can be."""
    able = narrowed(able, ties, changed)
    if able is None:
        return None
    loose = [name for name in able if len(able[name]) > 1]
    if len(loose) == 0:
        return able
    name = min(loose, key=lambda one: len(able[one]))
    for mark in able[name]:
        found = settled({**able, name: [mark]}, ties, [name])
        if found is not None:
            return found
    return None


def narrowed(able, ties, changed):
    """The marks left to each name when those are gone that fit no mark of a tied one; None where one has none."""
    able = {name: able[name] for name in able}
    # Whoever has lost marks is looked at once more, since those tied to it may lose some by that.
    queue = list(changed)
    at = 0
    while at < len(queue):
        name = queue[at]
        at += 1
        for other, fitting in ties[name]:
            left = [mark for mark in able[other] if mark in reached(able[name], fitting)]
            if len(left) == 0:
                return None
            if len(left) < len(able[other]):
                able[other] = left
                queue.append(other)
    return able


def reached(marks, fitting):
    """All marks that fit one of the marks."""
    return [other for mark in marks for other in fitting[mark]]
