"""The errors of the package."""


class WindowError(ValueError):
    """The base class of all errors of the package."""


class BadProgram(WindowError):
    """No program: index is the first wrong item, None for no tuple of at most 40 items."""

    def __init__(self, index):
        super().__init__(f"no program, wrong item: {index}")
        self.index = index


class BadInstruction(WindowError):
    """No instruction."""


class BadState(WindowError):
    """No state."""


class BadNumber(WindowError):
    """No number, or no numbers, such as asked for."""


class TooLong(WindowError):
    """Not ended behind the most instructions, events or rounds."""

    def __init__(self, most):
        super().__init__(f"not ended behind {most}")
        self.most = most


class BadEvent(WindowError):
    """No event."""


class BadEntry(WindowError):
    """No entry of a table."""


class BadDesign(WindowError):
    """No design."""


class BadKind(WindowError):
    """No kind of instruction."""


class BadTable(WindowError):
    """No table of a design."""


class BadGuesser(WindowError):
    """No guesser."""


class BadRow(WindowError):
    """No row of events: index is the first wrong item, None for no such tuple."""

    def __init__(self, index):
        super().__init__(f"no row of events, wrong item: {index}")
        self.index = index


class BadBlock(WindowError):
    """No block."""


class NotMade(WindowError):
    """The answer is not made for these arguments."""


class NotText(WindowError):
    """No string."""


class InvalidText(WindowError):
    """A text with a line that cannot stand there: line is its number, from 1."""

    def __init__(self, line):
        super().__init__(f"line {line} cannot stand there")
        self.line = line


class NotNow(WindowError):
    """An event that cannot come now."""


class NothingToUndo(WindowError):
    """No event to take back."""
