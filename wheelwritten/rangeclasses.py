"""Ranges as objects that never change."""

from wheelwritten.boards import ranges_of
from wheelwritten.colouring import fewest_colours
from wheelwritten.counting import how_many_numberings
from wheelwritten.dividing import product_of
from wheelwritten.kinds import is_board, is_ranges
from wheelwritten.laying import is_numbering
from wheelwritten.leastboards import fewest_handing, fewest_handing_within, least_depth
from wheelwritten.numberinglists import number_of, numbering_at
from wheelwritten.orderlists import how_many_orders
from wheelwritten.straights import straight_board
from wheelwritten.usable import need


class Ranges:
    """Ranges, and what is told of the numberings that have them."""

    def __init__(self, *ranges):
        need(is_ranges(ranges), "ranges")
        self._ranges = ranges

    def told(self):
        """The ranges."""
        return self._ranges

    def wheel_now(self):
        """The product of the ranges."""
        return product_of(self._ranges)

    def colours(self):
        """The fewest colours of a colouring."""
        return fewest_colours(self._ranges)

    def depth(self):
        """The least depth of a numbering."""
        return least_depth(self._ranges)

    def numberings(self):
        """How many numberings there are."""
        return how_many_numberings(self._ranges)

    def orders(self):
        """How many orders fit."""
        return how_many_orders(self._ranges)

    def handing(self, most=None):
        """The least number of dials that hand to some dial; if most is not None, where the depth is at most that."""
        if most is None:
            return fewest_handing(self._ranges)
        return fewest_handing_within(self._ranges, most)

    def at_number(self, place):
        """The numbering at this place of all."""
        return numbering_at(self._ranges, place)

    def number(self, board):
        """The place of a numbering with just these ranges."""
        need(is_board(board) and ranges_of(board) == self._ranges and is_numbering(board), "board")
        return number_of(board)

    def board_by(self, order):
        """The straight numbering whose reach is the order."""
        return straight_board(self._ranges, order)
