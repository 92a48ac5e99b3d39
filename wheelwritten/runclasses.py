"""Runs of transforms for two numberings, as objects that never change."""

from wheelwritten.convolving import wheel_product
from wheelwritten.crossing import is_alike
from wheelwritten.faults import need_numbering
from wheelwritten.nets import net_of
from wheelwritten.planchecker import is_right_plan
from wheelwritten.planning import plan_of
from wheelwritten.roots import need_root
from wheelwritten.running import plan_run
from wheelwritten.transforms import are_values, back_transform, transform
from wheelwritten.usable import need


class Runner:
    """A prime, a root, and two numberings with the same wheel and ranges."""

    def __init__(self, prime, root, board, other):
        need_numbering(board)
        need_root(prime, board[0], root)
        need(is_alike(board, other), "other")
        self._prime = prime
        self._root = root
        self._board = board
        self._other = other

    def told(self):
        """The tuple (prime, root, board, other)."""
        return self._prime, self._root, self._board, self._other

    def net(self):
        """The net of the board."""
        return net_of(self._board)

    def forward(self, values):
        """The transform of the values."""
        return transform(self._prime, self._board[0], self._root, values)

    def back(self, values):
        """The values whose transform values is."""
        return back_transform(self._prime, self._board[0], self._root, values)

    def multiply(self, left, right):
        """The product of two values on the wheel."""
        wheel = self._board[0]
        need(are_values(self._prime, wheel, left), "left")
        need(are_values(self._prime, wheel, right), "right")
        return wheel_product(self._prime, wheel, left, right)

    def by_plan(self, values, plan=None):
        """The transform of the values by a right plan; if plan is None, by any of plan_of, else Ringed."""
        board = self._board
        other = self._other
        need(are_values(self._prime, board[0], values), "values")
        need(plan is None or is_right_plan(board, other, plan), "plan")
        if plan is None:
            return plan_run(board, other, self._prime, self._root, plan_of(board, other), values)
        return plan_run(board, other, self._prime, self._root, plan, values)
