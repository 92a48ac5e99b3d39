"""Divisors, turns, inverses and products."""

from math import gcd

from wheelwritten.kinds import is_less, is_number, is_wheel
from wheelwritten.usable import need


def is_divisor(many, thing):
    """Whether thing is a divisor of many."""
    return is_wheel(thing) and many % thing == 0


def is_unit(many, thing):
    """Whether thing is a unit of many."""
    return is_less(many, thing) and gcd(many, thing) == 1


def gcd_of(many, other):
    """The greatest common divisor of two numbers."""
    need(is_number(other), "other")
    return gcd(many, other)


def lcm_of(many, other):
    """The least common multiple of two integers of at least 1."""
    need(is_wheel(other), "other")
    return many // gcd(many, other) * other


def turns_in(wheel, weight):
    """The turns of any number modulo the wheel."""
    return wheel // gcd(wheel, weight)


def turns_of(wheel, place):
    """The turns of the place modulo the wheel."""
    need(is_less(wheel, place), "place")
    return turns_in(wheel, place)


def inverse_of(wheel, place):
    """The place whose product with place is 1 modulo the wheel, None if there is none."""
    need(is_less(wheel, place), "place")
    rest, other_rest = wheel, place
    # Each rest is, modulo the wheel, its factor times place.
    factor, other_factor = 0, 1
    while other_rest > 0:
        quotient = rest // other_rest
        rest, other_rest = other_rest, rest - quotient * other_rest
        factor, other_factor = other_factor, factor - quotient * other_factor
    if rest > 1:
        return None
    return factor % wheel


def product_of(ranges):
    """The product of the ranges, 1 for ()."""
    many = 1
    for one in ranges:
        many = many * one
    return many
