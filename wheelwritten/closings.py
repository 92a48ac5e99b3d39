"""Closed sets of dials, none of which hands to a dial outside."""

from wheelwritten.boards import ranges_of
from wheelwritten.dividing import product_of
from wheelwritten.kinds import is_set, is_wheel
from wheelwritten.reaching import reach_of
from wheelwritten.searching import subsets_of
from wheelwritten.usable import need


def _closed_in(reach, dials):
    """Whether all dials below some of the dials are among them."""
    return all([lower in dials for dial in dials for lower in reach[dial]])


def is_closed(numbering, dials):
    """Whether the set of dials is closed."""
    need(is_set(len(numbering[1]), dials), "dials")
    return _closed_in(reach_of(numbering), dials)


def closed_by(numbering, dials):
    """The least closed set that has all of dials."""
    need(is_set(len(numbering[1]), dials), "dials")
    reach = reach_of(numbering)
    found = list(dials)
    for dial in dials:
        found.extend(reach[dial])
    return tuple(sorted(set(found)))


def closed_sets(numbering):
    """The set of all closed sets."""
    reach = reach_of(numbering)
    return tuple(sorted([dials for dials in subsets_of(len(reach)) if _closed_in(reach, dials)]))


def product_on(ranges, dials):
    """The product of the set of dials."""
    need(is_set(len(ranges), dials), "dials")
    return product_of([ranges[dial] for dial in dials])


def set_of_product(numbering, many):
    """The closed set with the product many, None if there is none."""
    need(is_wheel(many), "many")
    ranges = ranges_of(numbering)
    for dials in closed_sets(numbering):
        if product_on(ranges, dials) == many:
            return dials
    return None
