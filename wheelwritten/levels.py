"""Levels of dials and of wheels."""

from wheelwritten.dividing import is_divisor
from wheelwritten.factoring import factors_of, is_prime, power_of, times_dividing
from wheelwritten.kinds import is_less, is_wheel
from wheelwritten.usable import need


def levels_of(board, dial):
    """The set of the levels of the dial, None if its weight is 0."""
    dials = board[1]
    need(is_less(len(dials), dial), "dial")
    many, weight = dials[dial]
    if weight == 0:
        return None
    levels = []
    for prime, exponent in factors_of(many):
        first = times_dividing(weight, prime) + 1
        levels.extend([(prime, level) for level in range(first, first + exponent)])
    return tuple(levels)


def wheel_levels(wheel):
    """The set of the levels of the wheel."""
    return tuple([(prime, level) for prime, exponent in factors_of(wheel) for level in range(1, exponent + 1)])


def all_held(board):
    """The list of the pairs (level, dial that has it), ascending."""
    held = []
    for dial in range(len(board[1])):
        levels = levels_of(board, dial)
        if levels is not None:
            held.extend([(level, dial) for level in levels])
    return sorted(held)


def free_levels(board):
    """The set of the levels of the wheel that no dial has."""
    held = [level for level, _ in all_held(board)]
    return tuple([level for level in wheel_levels(board[0]) if level not in held])


def full_weight(wheel, prime, level):
    """The full weight of the level (prime, level) of the wheel."""
    # First whether it divides the wheel: then it is small enough to be tried for a prime.
    need(is_divisor(wheel, prime) and is_prime(prime), "prime")
    exponent = times_dividing(wheel, prime)
    need(is_wheel(level) and level <= exponent, "level")
    return wheel // power_of(prime, exponent - level + 1)


def by_levels(numbering):
    """The tuple of the pairs (level, dial that has it) for all levels of the wheel, ascending."""
    return tuple(all_held(numbering))
