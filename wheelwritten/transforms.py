"""Transforms of values, by the double sum."""

from wheelwritten.dividing import inverse_of
from wheelwritten.kinds import is_tuple_under
from wheelwritten.roots import is_root, power_modulo
from wheelwritten.usable import need


def are_values(prime, wheel, thing):
    """Whether thing is a tuple with a number less than the prime for each place."""
    return is_tuple_under(prime, thing) and len(thing) == wheel


def powers_by(prime, wheel, root):
    """The tuple of the powers of the root by all places."""
    powers = [1]
    for _ in range(wheel - 1):
        powers.append(powers[-1] * root % prime)
    return tuple(powers)


def transformed(prime, wheel, root, values):
    """The transform of the values."""
    powers = powers_by(prime, wheel, root)
    rows = [[value * powers[r * k % wheel] for r, value in enumerate(values)] for k in range(wheel)]
    return tuple([sum(row) % prime for row in rows])


def turned_root(prime, wheel, root):
    """The root whose product with root is 1 modulo the prime."""
    return power_modulo(prime, root, wheel - 1)


def scaled_down(prime, wheel, values):
    """The values divided by the wheel, modulo the prime."""
    # The wheel divides the prime less 1, so it is less than the prime.
    inverse = inverse_of(prime, wheel)
    return tuple([value * inverse % prime for value in values])


def power_table(prime, wheel, root):
    """The tuple of the powers of the root by all places."""
    need(is_root(prime, wheel, root), "root")
    return powers_by(prime, wheel, root)


def transform(prime, wheel, root, values):
    """The transform of the values."""
    need(is_root(prime, wheel, root), "root")
    need(are_values(prime, wheel, values), "values")
    return transformed(prime, wheel, root, values)


def back_transform(prime, wheel, root, values):
    """The values whose transform values is."""
    need(is_root(prime, wheel, root), "root")
    need(are_values(prime, wheel, values), "values")
    return scaled_down(prime, wheel, transformed(prime, wheel, turned_root(prime, wheel, root), values))
