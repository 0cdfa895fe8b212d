"""The errors of the package."""


class SlantError(ValueError):
    """A value that is not of the form that a function asks for."""


class InvalidSlope(SlantError):
    """No slope, or not the slope that is needed."""


class InvalidWay(SlantError):
    """No way of the slope."""


class InvalidText(SlantError):
    """No text of the form that is needed."""


class InvalidShelf(SlantError):
    """No shelf, or none of the slope."""


class InvalidHeap(SlantError):
    """No heap of squares."""


class InvalidScale(SlantError):
    """No scale of weighted letters."""


class InvalidField(SlantError):
    """No field, or not the field that is needed."""


class InvalidRoom(SlantError):
    """No room, or none over the field and the slope."""


class InvalidChain(SlantError):
    """No chain on the room."""


class InvalidShuffle(SlantError):
    """No steady shuffle of the slope."""


class InvalidParting(SlantError):
    """No parting of the ring."""


class InvalidOperation(SlantError):
    """An argument with which the operation cannot be done."""


class ParseError(SlantError):
    """A text that cannot be read on from an index."""

    def __init__(self, index):
        self.index = index


class InvalidNumber(IndexError):
    """A number that is none, or out of its bounds."""

    def __init__(self, value):
        self.value = value


class UnknownName(KeyError):
    """A name under which nothing is kept."""

    def __init__(self, name):
        self.name = name


class TooMany(OverflowError):
    """More things than a limit allows."""

    def __init__(self, limit):
        self.limit = limit


class Refused(ArithmeticError):
    """A valid request that cannot be met; its reason is a tuple that begins with a word."""

    def __init__(self, reason):
        self.reason = reason


class NothingToUndo(LookupError):
    """Fewer deeds to take back, or to do again, than were asked for."""

    def __init__(self, many):
        self.many = many
