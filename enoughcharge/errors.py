"""The errors of the package, each with exactly its fields."""


class ChargeError(ValueError):
    """The base class of all errors."""


class PaperError(ChargeError):
    """What a checker refuses."""


class ProgramError(ChargeError):
    """What a function cannot use, or a program cannot do."""


class MachineError(ChargeError):
    """What a live machine refuses."""


class TextError(ChargeError):
    """What a reader cannot read."""


class InvalidPaper(PaperError):
    """The first entry of a checker's list that applies."""

    def __init__(self, word, at):
        self.word = word
        self.at = at


class NotUsable(ProgramError):
    """A parameter that is not as its point states."""

    def __init__(self, word, at):
        self.word = word
        self.at = at


class NeverEnough(ProgramError):
    """A run that is a ring, where none should come."""

    def __init__(self, run):
        self.run = run


class InvalidEvent(MachineError):
    """An event that is not possible, and why."""

    def __init__(self, event, reason):
        self.event = event
        self.reason = reason


class NothingToUndo(MachineError):
    """There is no last event or move."""

    def __init__(self, steps):
        self.steps = steps


class InvalidText(TextError):
    """The first line that is not possible, and the field in it."""

    def __init__(self, line, field):
        self.line = line
        self.field = field


class InvalidRow(TextError):
    """A row that a desk does not know."""

    def __init__(self, row):
        self.row = row
