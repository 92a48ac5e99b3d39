"""How many numberings have told ranges, and a told order."""

from math import gcd

from wheelwritten.dividing import product_of
from wheelwritten.factoring import how_many_units
from wheelwritten.orders import just_under, spans_by
from wheelwritten.searching import subsets_of
from wheelwritten.straights import need_fitting
from wheelwritten.ties import ties_of


def how_many_within(ranges, order):
    """How many numberings with these ranges have a reach that lies within the order."""
    need_fitting(ranges, order)
    spans = spans_by(ranges, order)
    return product_of([how_many_units(many) * (span // many) for many, span in zip(ranges, spans)])


def how_many_with(ranges, order):
    """How many numberings with these ranges have the order as their reach."""
    count = how_many_within(ranges, order)
    for dial, many in enumerate(ranges):
        for lower in just_under(order, dial):
            if gcd(many, ranges[lower]) == 1:
                count = count // ranges[lower] * (ranges[lower] - 1)
    return count


def _ways_above(ranges, dials, lowest, known):
    """How many numberings of dials there are in which all of lowest, no two of them tied, hand to none."""
    rest = tuple([dial for dial in dials if dial not in lowest])
    units = product_of([how_many_units(ranges[dial]) for dial in lowest])
    # The weight of each other dial is told but for a multiple of the wheel that the others alone have.
    lifts = product_of([ranges[dial] for dial in lowest for _ in rest])
    return units * lifts * known[rest]


def _count_on(ranges, dials, known):
    """How many numberings of dials there are; known has the counts of all lesser sets of dials.

    In each some dial hands to none, so those with one such dial, less those with two, and so on, are all of them.
    """
    count = 0
    ties = ties_of(ranges)
    for part in subsets_of(len(dials)):
        lowest = tuple([dials[k] for k in part])
        if part != () and not any([one in lowest and other in lowest for one, other in ties]):
            sign = 1 if len(part) % 2 == 1 else -1
            count += sign * _ways_above(ranges, dials, lowest, known)
    return count


def how_many_numberings(ranges):
    """How many numberings have these ranges."""
    known = {(): 1}
    for dials in subsets_of(len(ranges)):
        if dials != ():
            known[dials] = _count_on(ranges, dials, known)
    return known[tuple(range(len(ranges)))]
