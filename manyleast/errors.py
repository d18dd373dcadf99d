"""The refusals: one class for each."""


class LeastError(ValueError):
    """Any refusal."""


class Beyond(LeastError):
    """A number that isn't within the bounds; the field number holds it."""

    def __init__(self, number):
        # The words leave the number out: a very long one could not be written.
        LeastError.__init__(self, "the number isn't within the bounds")
        self.number = number


class NoSuch(LeastError):
    """A place, a k, a make or the like that there isn't."""


class NoBounds(LeastError):
    """What would have come is no bounds."""


class TooMany(LeastError):
    """A row would have too many numbers."""


class NoText(LeastError):
    """What is read is no text of its kind."""


class NoRow(LeastError):
    """What the desk is told is no row of its list."""
