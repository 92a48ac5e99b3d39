"""Boards made of ranges alone."""

from wheelwritten.dividing import product_of
from wheelwritten.errors import Tied
from wheelwritten.ties import ties_of


def digit_board(ranges):
    """The board in which each weight is the product of the ranges ahead."""
    dials = []
    weight = 1
    for many in ranges:
        dials.append((many, weight))
        weight = weight * many
    return weight, tuple(dials)


def rest_board(ranges):
    """The board in which each weight is the wheel divided by the range, else Tied."""
    ties = ties_of(ranges)
    if ties != ():
        one, other = ties[0]
        raise Tied(one, other)
    wheel = product_of(ranges)
    return wheel, tuple([(many, wheel // many) for many in ranges])
