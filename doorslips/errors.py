"""The errors of the package; each one keeps its argument under its name."""


class InvalidHouse(ValueError):
    """A value is no house; part names the first part that is wrong, or is None."""

    def __init__(self, part):
        self.part = part


class InvalidUse(ValueError):
    """A value is no use of the house, or no order."""


class InvalidKeeper(ValueError):
    """A value is no keeper of the house and the use."""


class InvalidWorths(ValueError):
    """Values are no worths and no bound."""


class InvalidClaim(ValueError):
    """A value is no claim, or one that is not valid for the house."""


class ParseError(ValueError):
    """A text is not written as it must be; line is where this shows."""

    def __init__(self, line):
        self.line = line


class UnknownKind(LookupError):
    """There is no such kind, or it is no goer where a goer is needed."""

    def __init__(self, index):
        self.index = index


class UnknownEntry(LookupError):
    """No entry with this number is in."""

    def __init__(self, number):
        self.number = number


class UnknownCheckpoint(LookupError):
    """There is no checkpoint with this number."""

    def __init__(self, number):
        self.number = number


class UnknownRecord(LookupError):
    """There is no record with this number."""

    def __init__(self, number):
        self.number = number


class Never(RuntimeError):
    """No slips whatever let the entries of this kind go."""

    def __init__(self, kind):
        self.kind = kind


class Stays(RuntimeError):
    """The entry with this number is of no goer."""

    def __init__(self, number):
        self.number = number


class NotNow(RuntimeError):
    """This cannot be done now, for the entry with this number."""

    def __init__(self, number):
        self.number = number


class Lacking(RuntimeError):
    """The keeper has no row that the entry with this number needs."""

    def __init__(self, number):
        self.number = number


class LimitExceeded(OverflowError):
    """There are as many already as the limit lets."""

    def __init__(self, limit):
        self.limit = limit
