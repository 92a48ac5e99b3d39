"""Numberings with told ranges that have the least depth, or the fewest dials that hand to some dial."""

from wheelwritten.colouring import colouring_of, fewest_colours
from wheelwritten.kinds import is_number
from wheelwritten.searching import subsets_of
from wheelwritten.straights import straight_board
from wheelwritten.ties import tied_rows
from wheelwritten.usable import need


def _layered_board(ranges, layers):
    """The straight numbering in which each dial is above all dials of lower layers, a number for each dial."""
    size = len(ranges)
    order = [tuple([other for other in range(size) if layers[other] < layers[dial]]) for dial in range(size)]
    return straight_board(ranges, tuple(order))


def least_depth(ranges):
    """The least depth of a numbering with these ranges."""
    return max(fewest_colours(ranges) - 1, 0)


def shallow_board(ranges):
    """A numbering with these ranges and the least depth."""
    return _layered_board(ranges, colouring_of(ranges))


def _untied_sets(ranges):
    """The list of the sets of dials of which no two are tied, greater ones ahead of smaller ones."""
    rows = tied_rows(ranges)
    parts = subsets_of(len(ranges))[::-1]
    return [part for part in parts if not any([other in rows[dial] for dial in part for other in part])]


def most_untied(ranges):
    """A set of the most dials of which no two are tied."""
    return _untied_sets(ranges)[0]


def _others(ranges, dials):
    """The list of the dials that are not among dials."""
    return [dial for dial in range(len(ranges)) if dial not in dials]


def _lowest_within(ranges, most):
    """The most dials that can be of one colour beside at most so many other colours, None if there is no colouring."""
    for dials in _untied_sets(ranges):
        if fewest_colours(tuple([ranges[dial] for dial in _others(ranges, dials)])) <= most:
            return dials
    return None


def fewest_handing_within(ranges, most):
    """The least number of dials that hand to some dial where the depth is at most most, None if it never is."""
    need(is_number(most), "most")
    lowest = _lowest_within(ranges, most)
    if lowest is None:
        return None
    return len(ranges) - len(lowest)


def quiet_within(ranges, most):
    """A numbering of a depth of at most most in which the fewest dials hand to some dial, None if there is none."""
    need(is_number(most), "most")
    lowest = _lowest_within(ranges, most)
    if lowest is None:
        return None
    upper = _others(ranges, lowest)
    layers = [0] * len(ranges)
    for dial, colour in zip(upper, colouring_of(tuple([ranges[dial] for dial in upper]))):
        layers[dial] = colour + 1
    return _layered_board(ranges, layers)


def fewest_handing(ranges):
    """The least number of dials that hand to some dial, over all numberings with these ranges."""
    return len(ranges) - len(most_untied(ranges))


def quiet_board(ranges):
    """A numbering with these ranges in which the fewest dials hand to some dial."""
    # No depth is greater than the number of dials.
    return quiet_within(ranges, len(ranges))
