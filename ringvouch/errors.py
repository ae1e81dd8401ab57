"""The refusals: one class for each, all of them straight under RingError."""


class RingError(ValueError):
    """What every refusal of ringvouch is."""


class NoRule(RingError):
    """No rule can be made of this; field is the first argument that is wrong."""

    def __init__(self, field):
        super().__init__(f"this is no rule: see its {field}")
        self.field = field


class NoText(RingError):
    """No text of the form wanted; row is the first row that can't stand there."""

    def __init__(self, row):
        super().__init__(f"this can't be read: see row {row}")
        self.row = row


class NoRing(RingError):
    """This is no ring of the rule."""


class NoLooker(RingError):
    """No looker can do this between the two rules."""


class NoPlan(RingError):
    """This is no plan from the one rule to the other one."""


class NoPlace(RingError):
    """There are no such places in the ring."""


class NoBack(RingError):
    """There is nothing to take back."""


class NoHouse(RingError):
    """A house is wanted and none is there."""


class NoLine(RingError):
    """The desk knows no such line."""


class TooMany(RingError):
    """There would be more than can be told."""


class TooFar(RingError):
    """The table would look too far."""
