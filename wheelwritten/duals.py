"""Partners of a numbering: numberings with which there is no ring of joins."""

from math import gcd

from wheelwritten.boards import ranges_of
from wheelwritten.crossing import cross_table, joins_of
from wheelwritten.orders import order_turned, spans_by
from wheelwritten.reaching import reach_of
from wheelwritten.straights import multiplied_board, straight_board


def dual_of(numbering):
    """The straight numbering whose reach is that of the numbering turned about."""
    return straight_board(ranges_of(numbering), order_turned(reach_of(numbering)))


def _part_without(many, other):
    """The part of many that is made of the primes that do not divide other."""
    part = many
    common = gcd(part, other)
    while common > 1:
        part = part // common
        common = gcd(part, other)
    return part


def lean_of(numbering):
    """A partner with the fewest joins and, of these, the fewest twists.

    Its reach lies within that of the dual, so joins lead down only, and their rows have no more steps than the depth.
    A join of i to j is lacking exactly if both multipliers together are divided by the product of i, j and all
    between. The primes of j's range must come from i's own multiplier; all others are put into that of j.
    """
    ranges = ranges_of(numbering)
    order = order_turned(reach_of(numbering))
    factors = [_part_without(span, many) for span, many in zip(spans_by(ranges, order), ranges)]
    return multiplied_board(ranges, order, tuple(factors))


def fewest_terms(numbering):
    """How many joins there are with the partner of lean_of."""
    return len(joins_of(numbering, lean_of(numbering)))


def own_products(numbering, other):
    """The tuple of the cross products of each dial with itself."""
    return tuple([row[dial] for dial, row in enumerate(cross_table(numbering, other))])
