"""Two numberings, and the plans for them, as objects that never change."""

from wheelwritten.crossing import cross_table, is_alike, joins_of
from wheelwritten.faults import need_numbering
from wheelwritten.joinrings import is_ringed
from wheelwritten.mixing import come_by_joins
from wheelwritten.planchecker import is_right_plan
from wheelwritten.planning import plan_along, plan_of
from wheelwritten.twisting import fewest_twists
from wheelwritten.usable import need


class Tones:
    """A numbering and another one with the same wheel and ranges."""

    def __init__(self, board, other):
        need_numbering(board)
        need(is_alike(board, other), "other")
        self._board = board
        self._other = other

    def table(self):
        """The table of the cross products."""
        return cross_table(self._board, self._other)

    def joins(self):
        """The set of all joins."""
        return joins_of(self._board, self._other)

    def come(self):
        """The tuple of the sets of the dials come to by joins."""
        return come_by_joins(self._board, self._other)

    def ringed(self):
        """Whether there is a ring."""
        return is_ringed(self._board, self._other)

    def best_plan(self):
        """A right plan with the fewest twists and terms, else Ringed."""
        return plan_of(self._board, self._other)

    def along(self, sequence):
        """A right plan with its sums in this sequence and the fewest twists of these."""
        return plan_along(self._board, self._other, sequence)

    def twists(self):
        """The fewest twists of a right plan, None if there is a ring."""
        return fewest_twists(self._board, self._other)

    def is_right(self, thing):
        """Whether thing, any value, is a right plan."""
        return is_right_plan(self._board, self._other, thing)

    def mirrored(self):
        """A new Tones of the other numbering and the first."""
        return Tones(self._other, self._board)
