"""Which dials are tied: those whose ranges are not coprime."""

from math import gcd

from wheelwritten.kinds import is_less
from wheelwritten.searching import come_to
from wheelwritten.usable import need


def tied_rows(ranges):
    """The tuple with, for each dial, the set of the dials tied to it."""
    size = len(ranges)
    rows = []
    for one in range(size):
        rows.append(tuple([other for other in range(size) if other != one and gcd(ranges[one], ranges[other]) > 1]))
    return tuple(rows)


def are_tied(ranges, one, other):
    """Whether the dial one and another one are tied."""
    size = len(ranges)
    need(is_less(size, one), "one")
    need(is_less(size, other) and other != one, "other")
    return other in tied_rows(ranges)[one]


def ties_of(ranges):
    """The set of the tied pairs (i, j), i less than j."""
    return tuple([(one, other) for one, row in enumerate(tied_rows(ranges)) for other in row if one < other])


def tied_with(ranges, dial):
    """The set of the dials tied to the dial."""
    need(is_less(len(ranges), dial), "dial")
    return tied_rows(ranges)[dial]


def tie_groups(ranges):
    """The smallest sets of dials, ascending, such that tied dials are in the same one."""
    rows = tied_rows(ranges)
    groups = [tuple(sorted(set(come_to(rows, dial) + (dial,)))) for dial in range(len(ranges))]
    return tuple(sorted(set(groups)))
