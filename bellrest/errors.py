"""The errors of the package. Attributes tell what an error is about."""


class BellError(ValueError):
    """Every error of the package is one of these."""


class InvalidMoment(BellError):
    """The value is not a moment, or not the text of one."""

    def __init__(self, value):
        self.value = value


class Backwards(BellError):
    """The second moment is earlier than the first one."""

    def __init__(self, first, second):
        self.first = first
        self.second = second


class InvalidSpan(BellError):
    """The value is not a span, not the text of one, or no hour or rounding."""

    def __init__(self, value):
        self.value = value


class InvalidTable(BellError):
    """The value is not a table, or not a condition for one."""

    def __init__(self, value):
        self.value = value


class Unlike(BellError):
    """Two numbers of clocks differ."""

    def __init__(self, expected, given):
        self.expected = expected
        self.given = given


class EmptyLot(BellError):
    """The lot over so many clocks is empty."""

    def __init__(self, clocks):
        self.clocks = clocks


class InvalidGate(BellError):
    """The item at this index of this part of a gate is wrong."""

    def __init__(self, part, index):
        self.part = part
        self.index = index


class UnknownName(BellError):
    """The gate has nothing with this name."""

    def __init__(self, name):
        self.name = name


class InvalidText(BellError):
    """The line with this number, counted from 1, cannot stand there."""

    def __init__(self, line):
        self.line = line


class InvalidRow(BellError):
    """The entry at this index makes the value no row."""

    def __init__(self, index):
        self.index = index


class NotLet(BellError):
    """What this index tells of is not let."""

    def __init__(self, index):
        self.index = index


class RestBlocked(BellError):
    """The stay of this state does not let the rest."""

    def __init__(self, state):
        self.state = state


class InvalidKind(BellError):
    """The value is not a kind over the ceilings."""

    def __init__(self, value):
        self.value = value


class BeyondCeiling(BellError):
    """The limit is greater than the ceiling of the clock with this number."""

    def __init__(self, clock, limit):
        self.clock = clock
        self.limit = limit


class UnlikeKinds(BellError):
    """Two readings have different kinds."""

    def __init__(self, first, second):
        self.first = first
        self.second = second


class InvalidHall(BellError):
    """The gate at this index cannot join the gates before it."""

    def __init__(self, index):
        self.index = index


class TooMany(BellError):
    """So many joined steps are more than a gate may have."""

    def __init__(self, size):
        self.size = size


class InvalidGoal(BellError):
    """The value is not a goal of the gate."""

    def __init__(self, value):
        self.value = value


class InvalidSight(BellError):
    """The entry at this index makes the value no sight."""

    def __init__(self, index):
        self.index = index


class NothingFits(BellError):
    """Nothing is left that fits; the index tells where."""

    def __init__(self, index):
        self.index = index


class NotSettled(BellError):
    """Two steps with this source and this deed overlap."""

    def __init__(self, state, deed):
        self.state = state
        self.deed = deed


class InvalidFact(BellError):
    """The value is not a fact, or not the number of one."""

    def __init__(self, value):
        self.value = value


class Contradiction(BellError):
    """No run meets all facts with the numbers of the core."""

    def __init__(self, core):
        self.core = core


class NothingToUndo(BellError):
    """Nothing is done that could be taken back."""


class NothingToRedo(BellError):
    """Nothing was taken back that could be done again."""


class UnknownMark(BellError):
    """There is no mark with this name."""

    def __init__(self, name):
        self.name = name


class InvalidGrain(BellError):
    """The value is not a grain."""

    def __init__(self, value):
        self.value = value


class OffGrain(BellError):
    """The rest is not a multiple of what the grain asks for."""

    def __init__(self, value):
        self.value = value
