"""Two boards put side by side, and upon each other."""

from math import gcd

from wheelwritten.kinds import is_board
from wheelwritten.usable import need


def _raised(dials, factor):
    """The dials with their weights multiplied, not reduced."""
    return tuple([(many, weight * factor) for many, weight in dials])


def side_by_side(board, other):
    """The board on the product of two coprime wheels, its weights times the other wheel."""
    need(is_board(other), "other")
    wheel, dials = board
    other_wheel, other_dials = other
    need(gcd(wheel, other_wheel) == 1, "other")
    return wheel * other_wheel, _raised(dials, other_wheel) + _raised(other_dials, wheel)


def upon(board, other):
    """The board on the product of both wheels, the other's weights times the first wheel."""
    need(is_board(other), "other")
    wheel, dials = board
    other_wheel, other_dials = other
    return wheel * other_wheel, dials + _raised(other_dials, wheel)
