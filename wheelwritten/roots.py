"""Roots modulo a prime, by whose powers transforms are made."""

from math import gcd

from wheelwritten.factoring import factors_of, is_prime
from wheelwritten.kinds import is_less, is_number, is_wheel
from wheelwritten.usable import need


def prime_for(wheel, least):
    """The least prime, not less than the number least, of which the wheel divides one less."""
    need(is_number(least), "least")
    prime = least + (1 - least) % wheel
    while not is_prime(prime):
        prime += wheel
    return prime


def power_modulo(prime, base, exponent):
    """The base to the power exponent, a number, modulo the prime."""
    power = 1
    square = base % prime
    left = exponent
    while left > 0:
        if left % 2 == 1:
            power = power * square % prime
        square = square * square % prime
        left = left // 2
    return power


def _divides_one_less(prime, wheel):
    """Whether the wheel divides the prime less 1."""
    return (prime - 1) % wheel == 0


def _is_root(prime, wheel, number):
    """Whether the number, less than the prime, is a root; the wheel divides the prime less 1."""
    if power_modulo(prime, number, wheel) != 1:
        return False
    # The least power that is 1 divides the wheel: if it is less, it divides the wheel over some prime.
    return all([power_modulo(prime, number, wheel // factor) != 1 for factor, _ in factors_of(wheel)])


def is_root(prime, wheel, thing):
    """Whether thing is a root of prime and wheel; NotUsable unless wheel is a wheel."""
    need(is_wheel(wheel), "wheel")
    return is_less(prime, thing) and _divides_one_less(prime, wheel) and _is_root(prime, wheel, thing)


def need_root(prime, wheel, root):
    """NotUsable unless prime is a prime, and root a root of it and the wheel."""
    need(is_prime(prime), "prime")
    need(is_root(prime, wheel, root), "root")


def all_roots(prime, wheel):
    """The set of all roots; the wheel must divide the prime less 1."""
    need(is_wheel(wheel) and _divides_one_less(prime, wheel), "wheel")
    number = 1
    root = 1
    while not _is_root(prime, wheel, root):
        number += 1
        root = power_modulo(prime, number, (prime - 1) // wheel)
    return tuple(sorted([power_modulo(prime, root, unit) for unit in range(wheel) if gcd(unit, wheel) == 1]))


def root_of(prime, wheel):
    """The least root; the wheel must divide the prime less 1."""
    return all_roots(prime, wheel)[0]
