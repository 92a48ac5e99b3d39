"""Sections of a numbering between two closed sets."""

from wheelwritten.boards import ranges_of
from wheelwritten.closings import is_closed, product_on
from wheelwritten.kinds import is_set
from wheelwritten.usable import need


def _is_closed_set(numbering, thing):
    """Whether thing is a closed set of the numbering."""
    return is_set(len(numbering[1]), thing) and is_closed(numbering, thing)


def section(numbering, inner, outer):
    """The numbering of the dials of the closed set outer that are not in the closed set inner."""
    need(_is_closed_set(numbering, inner), "inner")
    need(_is_closed_set(numbering, outer) and all([dial in outer for dial in inner]), "outer")
    wheel, dials = numbering
    ranges = ranges_of(numbering)
    new_wheel = product_on(ranges, outer) // product_on(ranges, inner)
    factor = wheel // product_on(ranges, outer)
    kept = [dials[dial] for dial in outer if dial not in inner]
    return new_wheel, tuple([(many, weight // factor % new_wheel) for many, weight in kept])
