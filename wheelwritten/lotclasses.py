"""Lots as objects that never change."""

from wheelwritten.errors import InvalidPaper
from wheelwritten.faults import need_numbering
from wheelwritten.kinds import is_integer, is_wheel
from wheelwritten.lotjoining import joint_lot, lot_turned, refines, shared_lot
from wheelwritten.lots import firm_of, lets_lot, lot_board, lot_of
from wheelwritten.usable import need


class Lot:
    """A lot of a wheel."""

    def __init__(self, wheel, lot):
        if not is_wheel(wheel):
            raise InvalidPaper("wheel", 0)
        lets_lot(wheel, lot)
        self._wheel = wheel
        self._lot = lot

    def told(self):
        """The pair of wheel and lot."""
        return self._wheel, self._lot

    def firm(self):
        """The set of the firm members."""
        return firm_of(self._wheel, self._lot)

    def as_board(self):
        """The board of the lot."""
        return lot_board(self._wheel, self._lot)

    def has(self, many):
        """Whether many, any value, is an integer that is a member."""
        return is_integer(many) and many in self._lot

    def _lot_beside(self, other):
        """The lot of another Lot of the same wheel, else NotUsable."""
        need(isinstance(other, Lot) and other.told()[0] == self._wheel, "other")
        return other.told()[1]

    def shared_with(self, other):
        """A new Lot of the members that both have."""
        return Lot(self._wheel, shared_lot(self._wheel, self._lot, self._lot_beside(other)))

    def joint_with(self, other):
        """A new Lot, the least that has all members of both."""
        return Lot(self._wheel, joint_lot(self._wheel, self._lot, self._lot_beside(other)))

    def turned(self):
        """A new Lot of the quotients of the wheel by the members."""
        return Lot(self._wheel, lot_turned(self._wheel, self._lot))

    def refines_it(self, other):
        """Whether each member of the other Lot is a member."""
        return refines(self._wheel, self._lot, self._lot_beside(other))

    @classmethod
    def of_board(cls, board):
        """A new Lot of a numbering, else InvalidPaper or NoNumbering."""
        need_numbering(board)
        return cls(board[0], lot_of(board))
