"""Straight numberings, and numberings by multipliers."""

from math import gcd

from wheelwritten.boards import ranges_of
from wheelwritten.dividing import product_of
from wheelwritten.errors import Tied
from wheelwritten.kinds import is_less
from wheelwritten.orders import first_loose, is_order, spans_by
from wheelwritten.reaching import reach_of, spans_of
from wheelwritten.usable import need


def need_fitting(ranges, order):
    """NotUsable unless order is an order of the dials, Tied unless it fits the ranges."""
    need(is_order(len(ranges), order), "order")
    pair = first_loose(ranges, order)
    if pair is not None:
        one, other = pair
        raise Tied(one, other)


def _are_multipliers(ranges, spans, thing):
    """Whether thing has, for each dial, a number less than its span and coprime to its range."""
    if not isinstance(thing, tuple) or len(thing) != len(ranges):
        return False
    return all([is_less(span, factor) and gcd(many, factor) == 1 for many, span, factor in zip(ranges, spans, thing)])


def multiplied_board(ranges, order, multipliers):
    """The numbering with these ranges that has these multipliers within the order."""
    need_fitting(ranges, order)
    spans = spans_by(ranges, order)
    need(_are_multipliers(ranges, spans, multipliers), "multipliers")
    wheel = product_of(ranges)
    weights = [factor * (wheel // span) for factor, span in zip(multipliers, spans)]
    return wheel, tuple(zip(ranges, weights))


def straight_board(ranges, order):
    """The straight numbering with these ranges whose reach is the order."""
    return multiplied_board(ranges, order, (1,) * len(ranges))


def multipliers_of(numbering):
    """The tuple of the multipliers of the numbering within its reach."""
    wheel, dials = numbering
    return tuple([weight // (wheel // span) for (_, weight), span in zip(dials, spans_of(numbering))])


def is_straight(numbering):
    """Whether the numbering is straight."""
    return all([factor == 1 for factor in multipliers_of(numbering)])


def twin_of(numbering):
    """The straight numbering with the same ranges and the same reach."""
    return straight_board(ranges_of(numbering), reach_of(numbering))
