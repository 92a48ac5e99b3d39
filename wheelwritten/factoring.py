"""Primes, exponents, divisors and units."""

from wheelwritten.kinds import is_range
from wheelwritten.usable import need


def times_dividing(many, divisor):
    """How often the divisor, at least 2, divides many, at least 1."""
    exponent = 0
    while many % divisor == 0:
        many = many // divisor
        exponent += 1
    return exponent


def power_of(base, exponent):
    """The base to the power exponent, a number."""
    power = 1
    for _ in range(exponent):
        power = power * base
    return power


def factors_of(many):
    """The pairs (prime, exponent) of the primes that divide many, ascending."""
    factors = []
    rest = many
    divisor = 2
    while divisor * divisor <= rest:
        exponent = times_dividing(rest, divisor)
        if exponent > 0:
            factors.append((divisor, exponent))
            rest = rest // power_of(divisor, exponent)
        divisor += 1
    if rest > 1:
        factors.append((rest, 1))
    return tuple(factors)


def divisors_of(many):
    """The set of the divisors of many."""
    divisors = [1]
    for prime, exponent in factors_of(many):
        powers = [power_of(prime, k) for k in range(exponent + 1)]
        divisors = [divisor * power for divisor in divisors for power in powers]
    return tuple(sorted(divisors))


def how_many_units(many):
    """How many units many has."""
    units = 1
    for prime, exponent in factors_of(many):
        units = units * (prime - 1) * power_of(prime, exponent - 1)
    return units


def exponent_in(many, prime):
    """How often the prime divides many."""
    need(is_prime(prime), "prime")
    return times_dividing(many, prime)


def is_prime(thing):
    """Whether thing is an integer that is prime."""
    if not is_range(thing):
        return False
    divisor = 2
    while divisor * divisor <= thing:
        if thing % divisor == 0:
            return False
        divisor += 1
    return True
