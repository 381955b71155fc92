"""The refusals of the program, each a class by itself under StrongError."""


class StrongError(ValueError):
    """What every refusal is."""


class NoMaking(StrongError):
    """A thing is no making."""


class NoText(StrongError):
    """A text is of no making; at is the number of the row where it fails."""

    def __init__(self, at):
        StrongError.__init__(self, at)
        self.at = at


class NoEvents(StrongError):
    """Events can't have come so; at is the number of the first that can't."""

    def __init__(self, at):
        StrongError.__init__(self, at)
        self.at = at


class NoStep(StrongError):
    """A step can't be taken; at is its number."""

    def __init__(self, at):
        StrongError.__init__(self, at)
        self.at = at


class NoPaper(StrongError):
    """A paper bears nothing out; at is the number of the entry where it fails, or -1."""

    def __init__(self, at):
        StrongError.__init__(self, at)
        self.at = at


class TooMany(StrongError):
    """More stands are met than may be."""


class NoUpon(StrongError):
    """One making can't be put upon the other."""


class NoLine(StrongError):
    """A line is none that the desk knows."""
