"""Boards as objects that never change."""

from wheelwritten.boardchecker import lets_board
from wheelwritten.boardlines import board_line, read_board
from wheelwritten.boards import is_same_board, place_of
from wheelwritten.listing import places_of
from wheelwritten.moving import resorted, scaled
from wheelwritten.parting import parted
from wheelwritten.usable import need


class Board:
    """A board of a wheel and a tuple of dials."""

    def __init__(self, wheel, dials):
        lets_board((wheel, dials))
        self._board = (wheel, dials)

    def told(self):
        """The board."""
        return self._board

    def how_many(self):
        """How many dials there are."""
        return len(self._board[1])

    def places_told(self):
        """The places of all settings."""
        return places_of(self._board)

    def at_setting(self, setting):
        """The place of the setting."""
        return place_of(self._board, setting)

    def as_line(self):
        """The line of the board."""
        return board_line(self._board)

    def scaled_by(self, unit):
        """A new Board with all weights multiplied by the unit."""
        wheel, dials = scaled(self._board, unit)
        return Board(wheel, dials)

    def sorted_by(self, sequence):
        """A new Board with its dials in this sequence."""
        wheel, dials = resorted(self._board, sequence)
        return Board(wheel, dials)

    def part(self, dial, low):
        """A new Board with the dial parted."""
        wheel, dials = parted(self._board, dial, low)
        return Board(wheel, dials)

    def is_same(self, other, as_sets=False):
        """Whether the other Board has the same board; if as_sets, but for the sequence."""
        need(isinstance(other, Board), "other")
        return is_same_board(self._board, other.told(), as_sets)

    @classmethod
    def of_line(cls, text):
        """A new Board with this line."""
        wheel, dials = read_board(text)
        return cls(wheel, dials)
