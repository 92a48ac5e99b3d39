"""Patterns on a wheel."""

from wheelwritten.kinds import is_integer
from wheelwritten.usable import need


def _is_row(wheel, thing):
    """Whether thing is a tuple of as many values as there are places."""
    return isinstance(thing, tuple) and len(thing) == wheel


def _need_rows(wheel, one, pattern):
    """NotUsable unless one has an integer for each place, and pattern an integer or None."""
    need(_is_row(wheel, one) and all([is_integer(value) for value in one]), "one")
    need(_is_row(wheel, pattern) and all([value is None or is_integer(value) for value in pattern]), "pattern")


def agreements(wheel, one, pattern):
    """The tuple with, for each place t, how many places r there are where pattern[r] is the element of one at r + t."""
    _need_rows(wheel, one, pattern)
    counts = []
    for shift in range(wheel):
        # What is None in the pattern is equal to no integer.
        counts.append(len([place for place in range(wheel) if one[(place + shift) % wheel] == pattern[place]]))
    return tuple(counts)


def matches(wheel, one, pattern):
    """The set of the places with which all of the pattern that is not None agrees."""
    counts = agreements(wheel, one, pattern)
    asked = len([value for value in pattern if value is not None])
    return tuple([shift for shift, count in enumerate(counts) if count == asked])
