"""A board that is judged by hand, dial by dial."""

from wheelwritten.boardchecker import lets_board
from wheelwritten.errors import NothingToUndo
from wheelwritten.faults import fault_of
from wheelwritten.kinds import is_integer
from wheelwritten.laying import full_dials, is_numbering
from wheelwritten.layingchecker import is_whole_laying
from wheelwritten.usable import need


class Judge:
    """A board with a laying, at first ()."""

    def __init__(self, board):
        lets_board(board)
        self._board = board
        self._row = ()
        self._rest = board[0]

    def is_one(self):
        """Whether the board is a numbering."""
        return is_numbering(self._board)

    def why_not(self):
        """A fault of the board, None for a numbering."""
        return fault_of(self._board)

    def taken(self):
        """The laying."""
        return self._row

    def left(self):
        """What is left."""
        return self._rest

    def whole(self):
        """Whether the laying is whole."""
        return is_whole_laying(self._board, self._row)

    def full_now(self):
        """The set of the dials not taken that are full at what is left."""
        return tuple([dial for dial in full_dials(self._board, self._rest) if dial not in self._row])

    def take(self, dial):
        """Put a dial of full_now() behind the laying; returns what is then left."""
        need(is_integer(dial) and dial in self.full_now(), "dial")
        self._row = self._row + (dial,)
        self._rest = self._rest // self._board[1][dial][0]
        return self._rest

    def back(self):
        """Take the last dial off the laying and return it."""
        if self._row == ():
            raise NothingToUndo(0)
        dial = self._row[-1]
        self._row = self._row[:-1]
        self._rest = self._rest * self._board[1][dial][0]
        return dial
