"""Events, by which numberings change, and logs of them."""

from wheelwritten.faultchecker import has_form
from wheelwritten.kinds import is_board, is_number, is_pair

LENGTHS = {
    "below": 4,
    "above": 3,
    "drop": 2,
    "lift": 2,
    "part": 3,
    "merge": 3,
    "scale": 2,
    "swap": 3,
    "weigh": 3,
    "twin": 1,
    "dual": 1,
    "most": 2,
}


def event_kinds():
    """The set of the words of events."""
    return tuple(sorted(list(LENGTHS)))


def _are_numbers(values):
    """Whether all values are numbers."""
    return all([is_number(value) for value in values])


def is_event(thing):
    """Whether thing is an event."""
    if not has_form(thing, dict(LENGTHS)):
        return False
    if thing[0] == "below":
        return _are_numbers(thing[1:3]) and isinstance(thing[3], tuple) and _are_numbers(thing[3])
    if thing == ("most", None):
        return True
    return _are_numbers(thing[1:])


def is_log(thing):
    """Whether thing is a pair of a board and a tuple of events."""
    if not is_pair(thing) or not is_board(thing[0]) or not isinstance(thing[1], tuple):
        return False
    return all([is_event(event) for event in thing[1]])
