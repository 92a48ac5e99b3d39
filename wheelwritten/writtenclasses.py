"""Numberings as objects that write places."""

from wheelwritten.boards import place_of
from wheelwritten.carrying import carry_of
from wheelwritten.faults import need_numbering
from wheelwritten.kinds import is_less
from wheelwritten.odometers import trip
from wheelwritten.reaching import below
from wheelwritten.rests import least_rest
from wheelwritten.sums import added, taken_off
from wheelwritten.usable import need
from wheelwritten.writing import setting_of


class Written:
    """A numbering that never changes."""

    def __init__(self, board):
        need_numbering(board)
        self._board = board

    def told(self):
        """The board."""
        return self._board

    def at_place(self, place):
        """The setting of the place."""
        return setting_of(self._board, place)

    def to_place(self, setting):
        """The place of the setting."""
        return place_of(self._board, setting)

    def plus(self, one, other):
        """The sum of the two settings."""
        return added(self._board, one, other)

    def minus(self, one, other):
        """The setting whose sum with other is one."""
        return taken_off(self._board, one, other)

    def carry(self, dial):
        """The carry of the dial."""
        return carry_of(self._board, dial)

    def reaches(self, one, other):
        """Whether the dial one reaches the dial other."""
        size = len(self._board[1])
        need(is_less(size, one), "one")
        need(is_less(size, other), "other")
        return other in below(self._board, one)

    def rest_for(self, dial):
        """The least divisor of the wheel that tells the dial."""
        return least_rest(self._board, dial)

    def trip_from(self, setting, step, times):
        """A generator of so many settings: setting first, then each moved by step from the one ahead."""
        board = self._board
        yield from trip(board, setting, step, times)
