"""The errors of the package, each with the values that tell what is wrong."""


class BarredError(ValueError):
    """A value is not what it has to be."""


class InvalidSigns(BarredError):
    """No number of signs, or one that is too small for the signs of a draft."""

    def __init__(self, value):
        self.value = value


class InvalidTable(BarredError):
    """No table; position is that of the first wrong element, or None."""

    def __init__(self, position):
        self.position = position


class InvalidWords(BarredError):
    """No words that can be barred; position is that of the first wrong one, or None."""

    def __init__(self, position):
        self.position = position


class InvalidLimits(BarredError):
    """No limits of runs; sign is the first wrong keyword, or None."""

    def __init__(self, sign):
        self.sign = sign


class InvalidSteps(BarredError):
    """No steps of sums; position is that of the first wrong one, or None."""

    def __init__(self, position):
        self.position = position


class InvalidBounds(BarredError):
    """No bounds of sums."""

    def __init__(self, low, high):
        self.low = low
        self.high = high


class InvalidMedium(BarredError):
    """No Medium."""

    def __init__(self, value):
        self.value = value


class InvalidState(BarredError):
    """No number of a state."""

    def __init__(self, value):
        self.value = value


class InvalidSign(BarredError):
    """None of the signs."""

    def __init__(self, value):
        self.value = value


class InvalidRow(BarredError):
    """No row, or none that is wanted here."""

    def __init__(self, value):
        self.value = value


class InvalidCount(BarredError):
    """No COUNT within its limits."""

    def __init__(self, value):
        self.value = value


class InvalidNumber(BarredError):
    """No number within its limits."""

    def __init__(self, value):
        self.value = value


class InvalidDescription(BarredError):
    """No description; line is the wrong line, or None."""

    def __init__(self, line):
        self.line = line


class InvalidRate(BarredError):
    """No Rate."""

    def __init__(self, value):
        self.value = value


class InvalidNumbers(BarredError):
    """No such list of numbers; position is that of the first wrong one, or None."""

    def __init__(self, position):
        self.position = position


class InvalidPaper(BarredError):
    """No Weights, or no Loads."""

    def __init__(self, value):
        self.value = value


class InvalidCoder(BarredError):
    """No Coder."""

    def __init__(self, value):
        self.value = value


class InvalidWord(BarredError):
    """No word for the rate."""

    def __init__(self, value):
        self.value = value


class InvalidText(BarredError):
    """No text; position is that of the first wrong word, or None."""

    def __init__(self, position):
        self.position = position


class InvalidBlock(BarredError):
    """No block for the rate."""

    def __init__(self, value):
        self.value = value


class InvalidSharing(BarredError):
    """No sharing; position is the first wrong state, or None."""

    def __init__(self, position):
        self.position = position


class InvalidChoice(BarredError):
    """No choice of entries."""

    def __init__(self, value):
        self.value = value


class InvalidBits(BarredError):
    """No bits; position is that of the first wrong one, or None."""

    def __init__(self, position):
        self.position = position


class InvalidMark(BarredError):
    """No mark."""

    def __init__(self, value):
        self.value = value


class InvalidName(BarredError):
    """No name."""

    def __init__(self, value):
        self.value = value


class InvalidThing(BarredError):
    """Nothing that a desk can have."""

    def __init__(self, value):
        self.value = value


class InvalidClaim(BarredError):
    """No claim."""

    def __init__(self, value):
        self.value = value


class InvalidCommand(BarredError):
    """No command."""

    def __init__(self, value):
        self.value = value


class MissingError(LookupError):
    """Something is not there."""


class UnknownWay(MissingError):
    """No sign of this name leads on from the state."""

    def __init__(self, state, sign):
        self.state = state
        self.sign = sign


class UnknownName(MissingError):
    """Nothing has this name."""

    def __init__(self, value):
        self.value = value


class StateError(RuntimeError):
    """Valid values do not go together, or not now."""


class NothingLeft(StateError):
    """The state 0 is dead, so that there is no medium."""


class OtherSigns(StateError):
    """Two media have different numbers of signs."""

    def __init__(self, one, other):
        self.one = one
        self.other = other


class OtherRate(StateError):
    """Two things have different rates."""

    def __init__(self, one, other):
        self.one = one
        self.other = other


class OtherMedium(StateError):
    """Two things have different media."""


class NoWeights(StateError):
    """There are loads, so that there are no weights."""

    def __init__(self, paper):
        self.paper = paper


class DoesNotFit(StateError):
    """The row of a text is barred."""

    def __init__(self, text):
        self.text = text


class LosesSomething(StateError):
    """Two texts cannot be told apart."""

    def __init__(self, clash):
        self.clash = clash


class NoLookAhead(StateError):
    """The coder has no look-ahead."""


class NoWindow(StateError):
    """The coder has no window."""


class NotEven(StateError):
    """The pieces are not even."""


class Lost(StateError):
    """No text has these blocks."""

    def __init__(self, position):
        self.position = position


class NameTaken(StateError):
    """The name is in use."""

    def __init__(self, name):
        self.name = name


class NothingToUndo(StateError):
    """There is no change that can be taken back."""


class CommandFailed(StateError):
    """A command of several raised an error."""

    def __init__(self, position):
        self.position = position


class LimitError(ArithmeticError):
    """Something would be too large."""


class TooMany(LimitError):
    """There are more of these than the limit."""

    def __init__(self, what, limit):
        self.what = what
        self.limit = limit
