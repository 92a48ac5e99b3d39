"""All whole layings of a numbering."""

from wheelwritten.kinds import is_less
from wheelwritten.laying import fills
from wheelwritten.layingchecker import is_whole_laying
from wheelwritten.usable import need


def _next_dials(numbering, taken, left):
    """The list of the dials not taken that are full at what is left, ascending."""
    return [dial for dial in range(len(numbering[1])) if dial not in taken and fills(numbering, dial, left)]


def _wholes_behind(numbering, taken, left):
    """A generator of the whole layings that begin with taken, ascending."""
    dials = numbering[1]
    if len(taken) == len(dials):
        yield taken
    for dial in _next_dials(numbering, taken, left):
        longer = taken + (dial,)
        rest = left // dials[dial][0]
        yield from _wholes_behind(numbering, longer, rest)


def all_layings(numbering):
    """A generator of the whole layings, ascending."""
    wheel = numbering[0]
    yield from _wholes_behind(numbering, (), wheel)


def _ways_behind(numbering, taken, left, known):
    """How many whole layings begin with taken; known has what was found for sets of dials."""
    dials = numbering[1]
    if len(taken) == len(dials):
        return 1
    # What is left, and so the count, hangs on which dials were taken alone, not on their sequence.
    key = tuple(sorted(taken))
    if key not in known:
        ways = 0
        for dial in _next_dials(numbering, taken, left):
            ways += _ways_behind(numbering, taken + (dial,), left // dials[dial][0], known)
        known[key] = ways
    return known[key]


def how_many_layings(numbering):
    """How many whole layings there are."""
    return _ways_behind(numbering, (), numbering[0], {})


def laying_at(numbering, place):
    """The whole laying at this position of all_layings."""
    need(is_less(how_many_layings(numbering), place), "place")
    left, dials = numbering
    taken = ()
    rest = place
    known = {}
    while len(taken) < len(dials):
        for dial in _next_dials(numbering, taken, left):
            ways = _ways_behind(numbering, taken + (dial,), left // dials[dial][0], known)
            if rest < ways:
                taken = taken + (dial,)
                left = left // dials[dial][0]
                break
            rest = rest - ways
    return taken


def number_of_laying(numbering, laying):
    """The position of the whole laying in all_layings."""
    need(is_whole_laying(numbering, laying), "laying")
    left, dials = numbering
    number = 0
    known = {}
    for k, taken in enumerate(laying):
        for dial in _next_dials(numbering, laying[:k], left):
            if dial < taken:
                number += _ways_behind(numbering, laying[:k] + (dial,), left // dials[dial][0], known)
        left = left // dials[taken][0]
    return number
