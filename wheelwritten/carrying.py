"""Carries, and which dial hands to which."""

from wheelwritten.kinds import is_less
from wheelwritten.usable import need
from wheelwritten.writing import written


def carry_of(numbering, dial):
    """The carry of the dial."""
    dials = numbering[1]
    need(is_less(len(dials), dial), "dial")
    many, weight = dials[dial]
    return written(numbering, many * weight)


def carries_of(numbering):
    """The tuple of the carries of all dials."""
    return tuple([carry_of(numbering, dial) for dial in range(len(numbering[1]))])


def hands_to(numbering, dial):
    """The set of the dials to which the dial hands."""
    return tuple([other for other, figure in enumerate(carry_of(numbering, dial)) if figure > 0])


def is_handing(numbering, dial):
    """Whether the dial hands to some dial."""
    return hands_to(numbering, dial) != ()


def handing_dials(numbering):
    """The set of the dials that hand to some dial."""
    return tuple([dial for dial in range(len(numbering[1])) if is_handing(numbering, dial)])
