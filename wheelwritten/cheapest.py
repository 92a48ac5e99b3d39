"""The ranges of a wheel that cost least, by a price of figures and a toll of colours."""

from wheelwritten.colouring import fewest_colours
from wheelwritten.factoring import factors_of, power_of
from wheelwritten.kinds import is_number, is_wheel
from wheelwritten.usable import need


def _need_costs(price, toll):
    """NotUsable unless price and toll are numbers."""
    need(is_number(price), "price")
    need(is_number(toll), "toll")


def cost_of(ranges, price, toll):
    """Price times the sum of the ranges, and toll times one less than the fewest colours; 0 for ()."""
    _need_costs(price, toll)
    if ranges == ():
        return 0
    return price * sum(ranges) + toll * (fewest_colours(ranges) - 1)


def _even_parts(total, many):
    """The list of so many integers that add up to total, unlike by at most 1."""
    return [total // many + 1] * (total % many) + [total // many] * (many - total % many)


def even_powers(wheel, most):
    """The tuple of the powers, sorted, if each prime's power is parted evenly into as many as most, or all."""
    need(is_wheel(most), "most")
    powers = []
    for prime, exponent in factors_of(wheel):
        powers.extend([power_of(prime, part) for part in _even_parts(exponent, min(most, exponent))])
    return tuple(sorted(powers))


def cheapest_ranges(wheel, price, toll):
    """Ranges with the product wheel and the least cost."""
    _need_costs(price, toll)
    greatest = max([exponent for _, exponent in factors_of(wheel)], default=1)
    parted = [even_powers(wheel, most) for most in range(1, greatest + 1)]
    return min(parted, key=lambda ranges: cost_of(ranges, price, toll))


def least_cost(wheel, price, toll):
    """The least cost of all ranges with the product wheel."""
    return cost_of(cheapest_ranges(wheel, price, toll), price, toll)
