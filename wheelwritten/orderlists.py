"""All orders that fit told ranges."""

from wheelwritten.kinds import is_number, is_pair_under
from wheelwritten.orders import steps_of
from wheelwritten.searching import subsets_of
from wheelwritten.straights import straight_board
from wheelwritten.ties import tied_rows
from wheelwritten.usable import need


def _goes_on(rows, order):
    """Whether the last set of a begun order agrees with those ahead of it; rows as of tied_rows."""
    dial = len(order) - 1
    last = order[dial]
    if dial in last:
        return False
    for other in range(dial):
        if other in last:
            agrees = all([lower in last for lower in order[other]])
        elif dial in order[other]:
            agrees = all([lower in order[other] for lower in last])
        else:
            agrees = other not in rows[dial]
        if not agrees:
            return False
    return True


def _orders_behind(rows, parts, order):
    """A generator of the orders that fit and begin with these sets, ascending; parts has all sets of dials."""
    if len(order) == len(rows):
        yield order
    else:
        for part in parts:
            longer = order + (part,)
            if _goes_on(rows, longer):
                yield from _orders_behind(rows, parts, longer)


def fitting_orders(ranges):
    """A generator of all orders that fit the ranges, ascending."""
    rows = tied_rows(ranges)
    parts = sorted(subsets_of(len(ranges)))
    yield from _orders_behind(rows, parts, ())


def how_many_orders(ranges):
    """How many orders fit the ranges."""
    return sum([1 for _ in fitting_orders(ranges)])


def orders_apart(ranges, pairs, most):
    """A generator of the orders that fit, have no pair of pairs comparable, and a depth of at most most, or None."""
    size = len(ranges)
    need(isinstance(pairs, tuple) and all([is_pair_under(size, pair) for pair in pairs]), "pairs")
    need(all([one != other for one, other in pairs]), "pairs")
    need(most is None or is_number(most), "most")
    for order in fitting_orders(ranges):
        apart = not any([one in order[other] or other in order[one] for one, other in pairs])
        if apart and (most is None or steps_of(order) <= most):
            yield order


def wished_board(ranges, pairs, most):
    """The straight numbering whose reach is the first order of orders_apart, None if there is none."""
    for order in orders_apart(ranges, pairs, most):
        return straight_board(ranges, order)
    return None
