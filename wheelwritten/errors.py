"""All errors of the package, by their families."""


class WheelError(ValueError):
    """The base class of all errors of the package."""


class PaperError(WheelError):
    """A value does not state what a checker wants of it."""


class BoardError(WheelError):
    """A board, or a value beside it, is not such that it can be used."""


class LiveError(WheelError):
    """An object cannot do now what it is asked for."""


class TextError(WheelError):
    """A text cannot be read."""


class InvalidPaper(PaperError):
    """word tells what is wrong, at tells where."""

    def __init__(self, word, at):
        self.word = word
        self.at = at


class NotUsable(BoardError):
    """word is the name of the parameter that is not as stated."""

    def __init__(self, word, at):
        self.word = word
        self.at = at


class NoNumbering(BoardError):
    """fault shows that the board is no numbering."""

    def __init__(self, fault):
        self.fault = fault


class NoFilling(BoardError):
    """fault shows that the board cannot be filled up."""

    def __init__(self, fault):
        self.fault = fault


class Tied(BoardError):
    """The ranges of the dials one and other are not coprime."""

    def __init__(self, one, other):
        self.one = one
        self.other = other


class Ringed(BoardError):
    """ring leads from a dial back to it."""

    def __init__(self, ring):
        self.ring = ring


class NoOrder(BoardError):
    """chain shows that there is no order of the kind asked for."""

    def __init__(self, chain):
        self.chain = chain


class InvalidEvent(LiveError):
    """event cannot happen; reason is a word that tells why."""

    def __init__(self, event, reason):
        self.event = event
        self.reason = reason


class NothingToUndo(LiveError):
    """Only so many steps could be undone."""

    def __init__(self, steps):
        self.steps = steps


class InvalidText(TextError):
    """The field of the line is lacking or not as told."""

    def __init__(self, line, field):
        self.line = line
        self.field = field


class InvalidRow(TextError):
    """row was read, but is not a thing of the kind asked for."""

    def __init__(self, row):
        self.row = row
