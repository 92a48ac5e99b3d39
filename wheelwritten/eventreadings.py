"""Events and logs read from lines of text."""

from wheelwritten.benchevents import LENGTHS
from wheelwritten.boardlines import integer_in, read_board
from wheelwritten.errors import InvalidText
from wheelwritten.usable import need


def _number_at(fields, k):
    """The number that field k tells, else InvalidText."""
    number = None
    if k < len(fields):
        number = integer_in(fields[k])
    if number is None:
        raise InvalidText(0, k)
    return number


def read_event(text):
    """The event with this line, else InvalidText for the first wrong field."""
    need(isinstance(text, str), "text")
    fields = text.split(" ")
    word = fields[0]
    if word not in LENGTHS:
        raise InvalidText(0, 0)
    if word == "below":
        times = _number_at(fields, 1)
        unit = _number_at(fields, 2)
        return word, times, unit, tuple([_number_at(fields, k) for k in range(3, len(fields))])
    length = LENGTHS[word]
    if word == "most" and fields[1:2] == ["-"]:
        event = (word, None)
    else:
        event = (word,) + tuple([_number_at(fields, k) for k in range(1, length)])
    if len(fields) > length:
        raise InvalidText(0, length)
    return event


def read_log(lines):
    """The log with these lines, else InvalidText for the first wrong line."""
    need(isinstance(lines, tuple) and all([isinstance(text, str) for text in lines]), "lines")
    if lines == ():
        raise InvalidText(0, 0)
    board = read_board(lines[0])
    events = []
    for k in range(1, len(lines)):
        try:
            events.append(read_event(lines[k]))
        except InvalidText as wrong:
            raise InvalidText(k, wrong.field)
    return board, tuple(events)
