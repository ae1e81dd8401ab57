"""The interface: names and arguments, each defined in the file that lists it."""

import importlib
import inspect
import unittest

FUNCTIONS = {
    "rules": ("plain_rule(many, pairs)", "one_way_rule(many, pairs)"),
    "rings": (
        "is_ring(rule, thing)", "places(ring)", "mark_at(ring, place)", "around(ring, place, far)", "turned(ring, by)",
        "mirrored(rule, ring)", "spelled(ring)",
    ),
    "parts": ("parts(rule)", "part_of(rule, mark)", "mirror_part(rule, part)"),
    "classing": ("period(rule, part)", "classes(rule, part)", "turning(rule, part)"),
    "sizes": (
        "is_size(rule, part, n)", "sizes(rule, part, most)", "how_many(rule, part, n)", "least_ring(rule, part, n)",
    ),
    "axes": ("axes(rule, marks)", "axis_classes(rule, part)"),
    "halves": ("is_mirror_size(rule, part, first, n)", "least_half(rule, part, first, n)"),
    "walks": ("has_walk(rule, one, other, n)", "least_walk(rule, one, other, n)"),
    "spans": ("span(rule, part)", "doublings(span)"),
    "fits": ("fits(rule, part, other, its, shift)",),
    "judging": ("judged(rule, other)",),
    "looks": ("shows_plan(rule, other, thing)", "shows_paper(rule, other, thing)"),
    "names": (
        "least_period(marks)", "least_turn(marks)", "read_back(rule, marks)", "lesser(rule, marks)",
        "is_tame(span, marks)", "is_centre(rule, marks)",
    ),
    "posts": ("posts(rule, span, ring)",),
    "tables": (
        "shows_table(rule, other, thing)", "told_by(table, ring)", "table_of(rule, other, far)",
        "put_behind(rule, first, second)",
    ),
    "orders": (
        "leads(rule, other)", "as_good(one, other)", "either(one, other)", "both(one, other)",
        "plan_behind(rule, middle, other, first, second)",
    ),
    "showing": ("show_rule(rule)", "show_ring(ring)", "show_plan(plan)", "show_reason(reason)"),
    "reading": ("read_rule(text)", "read_ring(text)", "read_plan(text)"),
}
CLASSES = {
    "rules": {
        "Rule": ("__init__(self, mirrors, steps)", "marks(self)", "mirror(self, mark)", "behind(self, mark)"),
    },
    "lookers": {
        "Looker": (
            "__init__(self, rule, other, *, plan=None)", "reach(self)", "near(self, marks)",
            "told(self, ring, place)", "told_all(self, ring)",
        ),
    },
    "houses": {
        "House": (
            "__init__(self, rule, other, marks, *, plan=None)", "put(self, at, out, marks)", "back(self)", "marks(self)",
            "deeds(self)", "told(self, place)", "told_all(self)", "moved(self)",
        ),
    },
    "desk": {"Desk": ("__init__(self, rule, other)", "say(self, line)")},
}


class InterfaceTest(unittest.TestCase):
    def agrees(self, owner, module, wanted):
        name = wanted.partition("(")[0]
        thing = vars(owner)[name]
        self.assertEqual(name + str(inspect.signature(thing)), wanted)
        self.assertEqual(thing.__module__, module.__name__)

    def test_functions(self):
        for name, rows in FUNCTIONS.items():
            module = importlib.import_module("ringvouch." + name)
            for wanted in rows:
                with self.subTest(wanted):
                    self.agrees(module, module, wanted)

    def test_classes(self):
        for name, classes in CLASSES.items():
            module = importlib.import_module("ringvouch." + name)
            for kind, rows in classes.items():
                self.assertEqual(getattr(module, kind).__module__, module.__name__)
                for wanted in rows:
                    with self.subTest(wanted):
                        self.agrees(getattr(module, kind), module, wanted)
