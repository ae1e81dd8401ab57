"""Showing: rules, rings, plans and reasons as texts."""

NOTHING = "-"


def show_marks(marks):
    """The marks with points between, a dash for none."""
    if len(marks) == 0:
        return NOTHING
    return ".".join([str(mark) for mark in marks])


def show_rule(rule):
    """The rows of the rule: how many marks, its mirrors, its steps."""
    rows = [f"marks {rule.marks()}"]
    rows += [f"mirror {a} {b}" for a, b in enumerate(rule.mirrors) if a < b]
    rows += [f"step {a} {b}" for a, b in rule.steps]
    return "\n".join(rows)


def show_ring(ring):
    """The runs of the ring with blanks between."""
    return " ".join([f"{times}*{show_marks(marks)}" for times, marks in ring])


def show_plan(plan):
    """The pairs of the plan with blanks between, a dash for none."""
    if len(plan) == 0:
        return NOTHING
    return " ".join([f"{its}/{shift}" for its, shift in plan])


def show_reason(reason):
    """The reason by its word and what it tells."""
    word = reason[0]
    if word == "side":
        return word
    if word == "axes":
        return " ".join([word] + [f"{show_marks(marks)}/{s}" for marks, s in reason[1]])
    return f"{word} {show_marks(reason[1])}"
