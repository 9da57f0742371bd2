"""The refusals: one class for each kind, all of them straight under FaultError."""


class FaultError(ValueError):
    """Any refusal."""


class BadText(FaultError):
    """No text of works: at is the number of the row, or None where the whole text is none."""

    def __init__(self, at):
        self.at = at


class Lacking(FaultError):
    """A row with a name that nothing has."""

    def __init__(self, row, name):
        self.row = row
        self.name = name


class Twice(FaultError):
    """A row with a name that is there already."""

    def __init__(self, row, name):
        self.row = row
        self.name = name


class BadNumber(FaultError):
    """A row with a number that is out of bounds."""

    def __init__(self, row):
        self.row = row


class TooMany(FaultError):
    """More than can be gone through."""


class BadTree(FaultError):
    """What is no tree."""


class BadOdds(FaultError):
    """What are no odds, no choices or no number of a part."""


class BadSets(FaultError):
    """What are no sets, no questions or no tree of questions."""


class NoPlan(FaultError):
    """Nothing does what is asked for."""


class BadLine(FaultError):
    """What is no line for a desk."""
