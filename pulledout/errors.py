"""The errors of the package: what they are under, and what they store."""


class PullError(ValueError):
    """The base of the errors about what was passed or told."""


class InvalidItem(PullError):
    """An item of a row is none, or stands where it may not."""

    def __init__(self, number):
        self.number = number


class InvalidStep(PullError):
    """A step of the puller is none, or stands where it may not."""

    def __init__(self, index):
        self.index = index


class InvalidBook(PullError):
    """A part of a book is none, or names what is not there."""

    def __init__(self, part, name):
        self.part = part
        self.name = name


class InvalidState(PullError):
    """A value is no state."""

    def __init__(self, value):
        self.value = value


class InvalidMove(PullError):
    """A value is no move, or one that is not possible."""

    def __init__(self, move):
        self.move = move


class InvalidText(PullError):
    """A line of a text is not written as it should be."""

    def __init__(self, line):
        self.line = line


class InvalidCommand(PullError):
    """A command of the console is none."""

    def __init__(self, word):
        self.word = word


class InvalidOption(PullError):
    """A value is no option."""

    def __init__(self, value):
        self.value = value


class NotRight(PullError):
    """A book is not right: a word, and a run that shows it."""

    def __init__(self, word, run):
        self.word = word
        self.run = run


class Faulty(PullError):
    """A move is a fault."""

    def __init__(self, word, move):
        self.word = word
        self.move = move


class InvalidNumber(ValueError):
    """A value is no number that may stand here."""

    def __init__(self, value):
        self.value = value


class UnknownName(LookupError):
    """Nothing is known under this name."""

    def __init__(self, name):
        self.name = name


class LimitExceeded(OverflowError):
    """There is more than the limit allows."""

    def __init__(self, limit):
        self.limit = limit


class NothingToUndo(RuntimeError):
    """There is nothing that this could take back or keep."""

    def __init__(self, name):
        self.name = name
