"""Which dial is below which, told by layings alone."""

from wheelwritten.kinds import is_less
from wheelwritten.laying import laid_along
from wheelwritten.usable import need


def left_without(numbering, dial):
    """The set of the other dials that are left if the dial is never taken."""
    size = len(numbering[1])
    need(is_less(size, dial), "dial")
    others = [other for other in range(size) if other != dial]
    taken = laid_along(numbering, others)[0]
    return tuple([other for other in others if other not in taken])


def always_ahead(numbering, dial):
    """The set of the dials that stand ahead of the dial in all whole layings."""
    size = len(numbering[1])
    need(is_less(size, dial), "dial")
    return tuple([other for other in range(size) if dial in left_without(numbering, other)])


def laid_order(numbering):
    """The tuple of the sets of always_ahead, for each dial."""
    return tuple([always_ahead(numbering, dial) for dial in range(len(numbering[1]))])
