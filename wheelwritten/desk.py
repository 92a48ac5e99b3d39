"""A bench that is asked by lines of text."""

from wheelwritten.bench import Bench
from wheelwritten.boardlines import board_line, integer_in, read_setting, setting_line
from wheelwritten.boards import place_by
from wheelwritten.errors import InvalidEvent, InvalidText, NothingToUndo
from wheelwritten.eventreadings import read_event
from wheelwritten.kinds import is_less
from wheelwritten.lotlines import lot_line, order_line
from wheelwritten.usable import need
from wheelwritten.writing import setting_of

UNKNOWN = "?"


def _event_in(text):
    """The event with this line, None if there is none."""
    try:
        return read_event(text)
    except InvalidText:
        return None


def _written_at(board, word):
    """The line of the setting of the place that word tells."""
    place = integer_in(word)
    if not is_less(board[0], place):
        return UNKNOWN
    return setting_line(board, setting_of(board, place))


def _place_at(board, text):
    """The place of the setting with this line."""
    try:
        return str(place_by(board, read_setting(board, text)))
    except InvalidText:
        return UNKNOWN


class Desk:
    """A Bench, and all strings that were said to it."""

    def __init__(self, board):
        self._bench = Bench(board)
        self._strings = ()

    def heard(self):
        """The tuple of all strings passed to say."""
        return self._strings

    def say(self, text):
        """The answer to the text, by the state now."""
        need(isinstance(text, str), "text")
        self._strings = self._strings + (text,)
        if text == "undo":
            return self._undone()
        if text.startswith("try "):
            event = _event_in(text[4:])
            return UNKNOWN if event is None else self._answer_to(event, False)
        event = _event_in(text)
        if event is not None:
            return self._answer_to(event, True)
        return self._told(text)

    def _answer_to(self, event, happens):
        """The line of the numbering behind the event, or why it cannot happen."""
        try:
            after = self._bench.go(event) if happens else self._bench.tried(event)
        except InvalidEvent as wrong:
            return f"no: {wrong.reason}"
        return board_line(after)

    def _undone(self):
        """The line of the numbering when one event is undone."""
        try:
            return board_line(self._bench.undo())
        except NothingToUndo:
            return "no: nothing"

    def _told(self, text):
        """What is asked for of the numbering now."""
        bench = self._bench
        board = bench.told_now()
        if text == "board":
            return board_line(board)
        if text == "lot":
            return lot_line(board[0], bench.lot_now())
        if text == "reach":
            return order_line(len(board[1]), bench.reach_now())
        if text == "depth":
            return str(bench.depth_now())
        if text == "done":
            return str(bench.how_many_done())
        if text == "most":
            return "-" if bench.most_now() is None else str(bench.most_now())
        if text.startswith("write "):
            return _written_at(board, text[6:])
        if text.startswith("place "):
            return _place_at(board, text[6:])
        return UNKNOWN
