"""One dial parted into two, and two dials merged into one."""

from wheelwritten.dividing import is_divisor
from wheelwritten.kinds import is_less
from wheelwritten.usable import need


def parted(board, dial, low):
    """The board with the dial parted into (low, weight) and what low leaves of its range."""
    wheel, dials = board
    need(is_less(len(dials), dial), "dial")
    many, weight = dials[dial]
    need(is_divisor(many, low) and 1 < low < many, "low")
    both = ((low, weight), (many // low, low * weight % wheel))
    return wheel, dials[:dial] + both + dials[dial + 1:]


def can_merge(board, one, other):
    """Whether the weight of other is the range of one times the weight of one."""
    wheel, dials = board
    need(is_less(len(dials), one), "one")
    need(is_less(len(dials), other) and other != one, "other")
    many, weight = dials[one]
    return dials[other][1] == many * weight % wheel


def merged(board, one, other):
    """The board in which one counts on with the figures of other, and other is gone."""
    need(can_merge(board, one, other), "other")
    wheel, dials = board
    many, weight = dials[one]
    new = list(dials)
    new[one] = (many * dials[other][0], weight)
    del new[other]
    return wheel, tuple(new)
