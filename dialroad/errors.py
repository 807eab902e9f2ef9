"""The errors of the program, each with its fields in the order of its constructor's arguments."""


class InvalidText(ValueError):
    """A value is not the text of a program: the token at the position cannot stand there."""

    def __init__(self, position):
        self.position = position


class InvalidLine(ValueError):
    """A value is not the text of a road: the line at the position cannot stand there."""

    def __init__(self, position):
        self.position = position


class InvalidName(ValueError):
    """The value is not the name of a walker."""

    def __init__(self, value):
        self.value = value


class InvalidPlace(ValueError):
    """The value is not a place that a walker can enter at."""

    def __init__(self, value):
        self.value = value


class InvalidProgram(ValueError):
    """The value is not a valid program."""

    def __init__(self, value):
        self.value = value


class DuplicateName(ValueError):
    """The road has a walker with this name already."""

    def __init__(self, value):
        self.value = value


class ShiftIsZero(ValueError):
    """An effect with shift 0 has no root."""


class DifferentPrimes(ValueError):
    """Two sets of effects have different primes."""


class DivisionByZero(ArithmeticError):
    """The zero polynomial divides nothing."""


class TooLong(ArithmeticError):
    """A program has, or would need, more instructions than the limit."""

    def __init__(self, limit):
        self.limit = limit


class UnknownName(LookupError):
    """The road has no walker with this name."""

    def __init__(self, value):
        self.value = value


class NothingLeft(LookupError):
    """There is no action left to undo or to redo, as the word says."""

    def __init__(self, word):
        self.word = word


class NoSuchMoment(IndexError):
    """The value is not a moment in the history of the road."""

    def __init__(self, value):
        self.value = value
