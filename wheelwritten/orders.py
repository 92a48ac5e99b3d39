"""Orders: which dials are below which."""

from wheelwritten.dividing import product_of
from wheelwritten.errors import InvalidPaper, Ringed
from wheelwritten.kinds import is_less, is_pair_under, is_set
from wheelwritten.searching import come_to, shortest_row
from wheelwritten.ties import ties_of
from wheelwritten.usable import need


def _first_gap(rows):
    """The first triple (i, j, k) with j below i, k below j, k not below i; None if there is none."""
    for i, row in enumerate(rows):
        for j in row:
            for k in rows[j]:
                if k not in row:
                    return i, j, k
    return None


def order_wrong(size, thing):
    """The pair (word, position) of what first keeps thing from being an order, None for an order."""
    if not isinstance(thing, tuple) or len(thing) != size:
        return "shape", -1
    for i, row in enumerate(thing):
        if not is_set(size, row):
            return "set", i
        if i in row:
            return "self", i
    gap = _first_gap(thing)
    if gap is not None:
        return "below", gap
    return None


def is_order(size, thing):
    """Whether thing is an order of the size."""
    return order_wrong(size, thing) is None


def lets_order(size, thing):
    """How many pairs (i, j) with j below i the order thing has. Else InvalidPaper."""
    wrong = order_wrong(size, thing)
    if wrong is not None:
        word, at = wrong
        raise InvalidPaper(word, at)
    return sum([len(row) for row in thing])


def order_of(size, pairs):
    """The order with these pairs (i, j), j below i, and what follows from them alone. Else Ringed."""
    need(isinstance(pairs, tuple) and all([is_pair_under(size, pair) for pair in pairs]), "pairs")
    steps = [[] for _ in range(size)]
    for one, other in pairs:
        steps[one].append(other)
    for dial in range(size):
        row = shortest_row(steps, dial, dial)
        if row is not None:
            raise Ringed(row[:-1])
    return tuple([come_to(steps, dial) for dial in range(size)])


def order_turned(order):
    """The order turned about."""
    size = len(order)
    return tuple([tuple([other for other in range(size) if dial in order[other]]) for dial in range(size)])


def turned_about(size, order):
    """The order of the size turned about."""
    need(is_order(size, order), "order")
    return order_turned(order)


def just_under(order, dial):
    """The set of the dials just below the dial, by an order."""
    row = order[dial]
    return tuple([other for other in row if not any([other in order[between] for between in row])])


def just_below(size, order, dial):
    """The set of the dials just below the dial."""
    need(is_order(size, order), "order")
    need(is_less(size, dial), "dial")
    return just_under(order, dial)


def steps_of(order):
    """The depth of an order."""
    steps = [0] * len(order)
    # A dial has fewer dials below it than each dial above it has.
    for dial in sorted(range(len(order)), key=lambda at: len(order[at])):
        steps[dial] = max([steps[lower] + 1 for lower in order[dial]], default=0)
    return max(steps, default=0)


def steps_in(size, order):
    """The depth of the order."""
    need(is_order(size, order), "order")
    return steps_of(order)


def first_loose(ranges, order):
    """The first pair of tied dials, ascending, that are not comparable; None if there is none."""
    for one, other in ties_of(ranges):
        if one not in order[other] and other not in order[one]:
            return one, other
    return None


def is_fitting(ranges, order):
    """Whether the order fits the ranges."""
    need(is_order(len(ranges), order), "order")
    return first_loose(ranges, order) is None


def spans_by(ranges, order):
    """The tuple of the spans of all dials by the order."""
    need(is_order(len(ranges), order), "order")
    return tuple([ranges[dial] * product_of([ranges[lower] for lower in row]) for dial, row in enumerate(order)])
