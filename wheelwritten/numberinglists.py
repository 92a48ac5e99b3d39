"""All numberings with told ranges."""

from math import gcd

from wheelwritten.boards import ranges_of, setting_numbered
from wheelwritten.counting import how_many_numberings, how_many_with
from wheelwritten.dividing import product_of
from wheelwritten.kinds import is_less
from wheelwritten.orderlists import fitting_orders
from wheelwritten.orders import just_under, spans_by
from wheelwritten.reaching import reach_of
from wheelwritten.straights import multiplied_board, multipliers_of, need_fitting
from wheelwritten.usable import need


def _factors_of_dial(ranges, order, dial):
    """The list of the multipliers of the dial, ascending, with which its reach is just that of the order."""
    many = ranges[dial]
    # Coprime to the dial's range, no multiplier is a multiple of a range that is not.
    barred = [ranges[lower] for lower in just_under(order, dial)]
    factors = [factor for factor in range(spans_by(ranges, order)[dial]) if gcd(factor, many) == 1]
    return [factor for factor in factors if all([factor % other != 0 for other in barred])]


def _all_factors(ranges, order):
    """The list of the lists of the multipliers of all dials."""
    return [_factors_of_dial(ranges, order, dial) for dial in range(len(ranges))]


def _numbered_with(ranges, order, rows, number):
    """The numbering with this number among those with the order; rows as of _all_factors."""
    places = setting_numbered([len(row) for row in rows], number)
    factors = tuple([row[place] for row, place in zip(rows, places)])
    return multiplied_board(ranges, order, factors)


def numberings_with(ranges, order):
    """A generator of the numberings with these ranges whose reach is the order, their multipliers ascending."""
    need_fitting(ranges, order)
    rows = _all_factors(ranges, order)
    for number in range(product_of([len(row) for row in rows])):
        yield _numbered_with(ranges, order, rows, number)


def numbering_at(ranges, place):
    """The numbering at this place of all with these ranges, by their reach, then by their multipliers."""
    need(is_less(how_many_numberings(ranges), place), "place")
    rest = place
    for order in fitting_orders(ranges):
        count = how_many_with(ranges, order)
        if rest < count:
            return _numbered_with(ranges, order, _all_factors(ranges, order), rest)
        rest = rest - count


def number_of(numbering):
    """The place of the numbering among all with its ranges."""
    ranges = ranges_of(numbering)
    reach = reach_of(numbering)
    ahead = sum([how_many_with(ranges, order) for order in fitting_orders(ranges) if order < reach])
    number = 0
    for factor, row in zip(multipliers_of(numbering), _all_factors(ranges, reach)):
        number = number * len(row) + row.index(factor)
    return ahead + number
