"""Numberings whose weights are exchanged for those of another one."""

from wheelwritten.crossing import is_alike
from wheelwritten.kinds import is_set
from wheelwritten.reaching import reach_of
from wheelwritten.searching import come_to
from wheelwritten.straights import twin_of
from wheelwritten.usable import need


def exchanged(numbering, other, dials):
    """The numbering as a board with the weights of other at the set of dials."""
    need(is_alike(numbering, other), "other")
    wheel, own = numbering
    need(is_set(len(own), dials), "dials")
    return wheel, tuple([other[1][dial] if dial in dials else own[dial] for dial in range(len(own))])


def can_mix(numbering, other):
    """Whether some order has, for each dial, all dials below it by either reach."""
    need(is_alike(numbering, other), "other")
    rows = [lower + other_lower for lower, other_lower in zip(reach_of(numbering), reach_of(other))]
    return not any([dial in come_to(rows, dial) for dial in range(len(rows))])


def way_to(numbering, other):
    """The tuple of the events, one for each dial with unlike weights, that lead from numbering to other."""
    need(can_mix(numbering, other), "other")
    both = list(zip(numbering[1], other[1]))
    return tuple([("weigh", dial, after[1]) for dial, (now, after) in enumerate(both) if now != after])


def way_to_twin(numbering):
    """The tuple of the events that lead from numbering to its twin."""
    return way_to(numbering, twin_of(numbering))
