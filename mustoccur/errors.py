"""The errors of the program. Each keeps the very objects that it was created with."""


class InvalidPattern(ValueError):
    """The value is not a pattern."""

    def __init__(self, value):
        self.value = value


class InvalidText(ValueError):
    """The value is not a text."""

    def __init__(self, value):
        self.value = value


class InvalidVariables(ValueError):
    """The value is not a variable set that can be used here."""

    def __init__(self, value):
        self.value = value


class InvalidValues(ValueError):
    """The value is not values of the pattern."""

    def __init__(self, value):
        self.value = value


class InvalidCount(ValueError):
    """The value is not an integer in its range."""

    def __init__(self, value):
        self.value = value


class InvalidChain(ValueError):
    """The value is not a chain of the pattern."""

    def __init__(self, value):
        self.value = value


class InvalidPlace(ValueError):
    """The value is not a place of the pattern."""

    def __init__(self, value):
        self.value = value


class InvalidFormula(ValueError):
    """The value is not a formula."""

    def __init__(self, value):
        self.value = value


class InvalidRules(ValueError):
    """The value is not the images of a rule set."""

    def __init__(self, value):
        self.value = value


class InvalidName(ValueError):
    """The value is not a name."""

    def __init__(self, value):
        self.value = value


class InvalidDeed(ValueError):
    """The deed at this index cannot be done."""

    def __init__(self, index):
        self.index = index


class InvalidCommand(ValueError):
    """The line is not a command."""

    def __init__(self, line):
        self.line = line


class ParseError(ValueError):
    """What is parsed is wrong from this offset on."""

    def __init__(self, offset):
        self.offset = offset


class NotFree(ValueError):
    """The variable set is not free."""

    def __init__(self, variables):
        self.variables = variables


class Avoidable(ValueError):
    """The pattern is avoidable."""

    def __init__(self, pattern):
        self.pattern = pattern


class RankTooSmall(LookupError):
    """The text has only this rank."""

    def __init__(self, rank):
        self.rank = rank


class NoBlock(LookupError):
    """No letter block has these two letters."""

    def __init__(self, first, second):
        self.first = first
        self.second = second


class UnknownName(KeyError):
    """No entry that fits has this name."""

    def __init__(self, name):
        self.name = name


class DuplicateName(KeyError):
    """An entry has this name already."""

    def __init__(self, name):
        self.name = name


class NoMoment(IndexError):
    """There is no such moment."""

    def __init__(self, asked):
        self.asked = asked


class TooLarge(OverflowError):
    """There is more than this limit."""

    def __init__(self, limit):
        self.limit = limit


class NothingToUndo(RuntimeError):
    """No deed and no batch stands."""

    def __init__(self):
        RuntimeError.__init__(self)


class NothingToRedo(RuntimeError):
    """Nothing was undone since the last deed or batch."""

    def __init__(self):
        RuntimeError.__init__(self)
