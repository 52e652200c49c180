"""All errors of the package."""


class DriveError(ValueError):
    """The base of the errors that take a message."""


class InvalidModulus(DriveError):
    """A value is not a prime from 2 to 97."""


class InvalidName(DriveError):
    """A value is not a name."""


class InvalidVector(DriveError):
    """A value is not a vector, or not one of the right length."""


class InvalidMatrix(DriveError):
    """A value is not a matrix of the right width."""


class InvalidPart(DriveError):
    """A value is not a part of a diagram."""


class InvalidDiagram(DriveError):
    """A value is not a diagram of the right kind."""


class InvalidEnds(DriveError):
    """A value is not a tuple of the right ends."""


class InvalidRecord(DriveError):
    """A value is not a record of the right kind."""


class InvalidGenerators(DriveError):
    """A value is not a tuple of generators."""


class InvalidBehaviour(DriveError):
    """A value is not a behaviour of the right kind."""


class InvalidMachine(DriveError):
    """A value does not have the form of a machine."""


class InvalidOperation(DriveError):
    """A call was given a value on which it cannot work."""


class ParseError(DriveError):
    """A value is not the text of what was to be read."""


class UnknownName(KeyError):
    """Nothing has this name."""

    def __init__(self, name):
        self.name = name


class InvalidNumber(IndexError):
    """A value is not a number, a width or a position of the right kind."""

    def __init__(self, value):
        self.value = value


class TooLarge(OverflowError):
    """Something exceeds this limit."""

    def __init__(self, limit):
        self.limit = limit


class NotDriving(ArithmeticError):
    """Some ends do not drive, as this paper shows."""

    def __init__(self, paper):
        self.paper = paper


class Impossible(RuntimeError):
    """A record is not a beginning from this time on."""

    def __init__(self, time):
        self.time = time


class Conflict(LookupError):
    """This name is already in use, or still needed."""

    def __init__(self, name):
        self.name = name
