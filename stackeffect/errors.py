"""The errors of the package; each holds what was wrong in one attribute."""


class StackError(ValueError):
    """The base class of the errors for values that are not valid."""


class InvalidWord(StackError):
    """A value is not a word, or not one that the function takes."""

    def __init__(self, value):
        self.value = value


class InvalidSteps(StackError):
    """The element at an index is not a step; the index is None if the steps as a whole are not valid."""

    def __init__(self, index):
        self.index = index


class InvalidNumber(StackError):
    """A value is not an integer, or not in its range."""

    def __init__(self, value):
        self.value = value


class InvalidItems(StackError):
    """A value is not a list or tuple of distinct items."""

    def __init__(self, value):
        self.value = value


class InvalidTable(StackError):
    """A value is not a table."""

    def __init__(self, value):
        self.value = value


class InvalidBlocks(StackError):
    """A value is not a dict of blocks."""

    def __init__(self, value):
        self.value = value


class InvalidEffect(StackError):
    """A value is not an effect, or not one that the function takes."""

    def __init__(self, value):
        self.value = value


class InvalidStacks(StackError):
    """A value is not a dict of stacks."""

    def __init__(self, value):
        self.value = value


class InvalidOrder(StackError):
    """A value is not an order, or not an assignment that produces the order."""

    def __init__(self, value):
        self.value = value


class InvalidCandidates(StackError):
    """A value is not a list of candidates."""

    def __init__(self, value):
        self.value = value


class InvalidObservation(StackError):
    """The element at an index is not an observation; the index is None if there is no list of them."""

    def __init__(self, index):
        self.index = index


class InvalidText(StackError):
    """A value is not the text of what is read, or not what can be written as text."""

    def __init__(self, value):
        self.value = value


class InvalidCommand(StackError):
    """A line is not a command."""

    def __init__(self, line):
        self.line = line


class UnknownName(KeyError):
    """Nothing is stored under a name."""

    def __init__(self, name):
        self.name = name


class StepFailed(RuntimeError):
    """The step at an index fails."""

    def __init__(self, index):
        self.index = index


class NothingToUndo(LookupError):
    """The number of deeds that can be undone is too small."""

    def __init__(self, count):
        self.count = count


class LimitExceeded(OverflowError):
    """A result or a stack would exceed a limit."""

    def __init__(self, limit):
        self.limit = limit
