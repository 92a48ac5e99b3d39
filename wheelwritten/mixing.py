"""Which dials can be come to by joins, and by the reach of both numberings."""

from wheelwritten.crossing import is_alike, joined_rows
from wheelwritten.orders import order_turned
from wheelwritten.reaching import reach_of
from wheelwritten.searching import come_to
from wheelwritten.usable import need


def come_by_joins(numbering, other):
    """The tuple with, for each dial, the set of the dials come to by one join or more."""
    rows = joined_rows(numbering, other)
    return tuple([come_to(rows, dial) for dial in range(len(rows))])


def come_by_reach(numbering, other):
    """The same by one step or more, each to a dial below by numbering or above by other."""
    need(is_alike(numbering, other), "other")
    rows = [lower + upper for lower, upper in zip(reach_of(numbering), order_turned(reach_of(other)))]
    return tuple([come_to(rows, dial) for dial in range(len(rows))])
