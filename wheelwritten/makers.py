"""Boards made of ranges alone."""

from math import gcd

from wheelwritten.dividing import product_of
from wheelwritten.errors import Tied


def digit_board(ranges):
    """The board in which each weight is the product of the ranges ahead."""
    dials = []
    weight = 1
    for many in ranges:
        dials.append((many, weight))
        weight = weight * many
    return weight, tuple(dials)


def _first_tied(ranges):
    """The first pair of tied dials, ascending, None if there is none."""
    for one in range(len(ranges)):
        for other in range(one + 1, len(ranges)):
            if gcd(ranges[one], ranges[other]) > 1:
                return one, other
    return None


def rest_board(ranges):
    """The board in which each weight is the wheel divided by the range, else Tied."""
    pair = _first_tied(ranges)
    if pair is not None:
        one, other = pair
        raise Tied(one, other)
    wheel = product_of(ranges)
    return wheel, tuple([(many, wheel // many) for many in ranges])
