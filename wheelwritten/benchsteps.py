"""Single events: why one cannot happen, and the numbering behind it."""

from math import gcd

from wheelwritten.benchevents import is_event
from wheelwritten.carrying import is_handing
from wheelwritten.dividing import is_divisor, is_unit
from wheelwritten.duals import dual_of
from wheelwritten.errors import InvalidEvent
from wheelwritten.growing import dropped, lifted, put_above, put_below
from wheelwritten.kinds import is_less
from wheelwritten.laying import is_numbering
from wheelwritten.moving import scaled
from wheelwritten.parting import can_merge, merged, parted
from wheelwritten.reaching import above
from wheelwritten.straights import twin_of

MOST_DIALS = 8


def weighed(board, dial, weight):
    """The board with another weight of the dial."""
    wheel, dials = board
    return wheel, dials[:dial] + ((dials[dial][0], weight),) + dials[dial + 1:]


def swapped(board, one, other):
    """The board in which two dials have changed places."""
    wheel, dials = board
    new = list(dials)
    new[one] = dials[other]
    new[other] = dials[one]
    return wheel, tuple(new)


def _dials_wrong(size, event):
    """Whether the event names what is no dial, or one dial twice."""
    word = event[0]
    if word in ("drop", "lift", "part", "weigh"):
        return event[1] >= size
    if word in ("merge", "swap"):
        return event[1] >= size or event[2] >= size or event[1] == event[2]
    return False


def _number_wrong(board, event):
    """Whether the event has a range, a part of a range or a weight that cannot be one; its dials are right."""
    wheel, dials = board
    word = event[0]
    if word in ("below", "above"):
        return event[1] < 2
    if word == "part":
        many = dials[event[1]][0]
        return not is_divisor(many, event[2]) or event[2] in (1, many)
    return word == "weigh" and event[2] >= wheel


def _unit_wrong(wheel, event):
    """Whether the event has a number that is not coprime, or not less, as it must be; its range is right."""
    word = event[0]
    if word == "below":
        return not is_unit(event[1], event[2])
    if word == "above":
        return not is_less(event[1] * wheel, event[2]) or gcd(event[1], event[2]) > 1
    return word == "scale" and not is_unit(wheel, event[1])


def _lifts_wrong(size, event):
    """Whether the event has lifts that are not one number less than times for each dial."""
    if event[0] != "below":
        return False
    return len(event[3]) != size or not all([lift < event[1] for lift in event[3]])


def _form_reason(numbering, event):
    """The first reason that the values of an event give, None if none does."""
    wheel, dials = numbering
    size = len(dials)
    if _dials_wrong(size, event):
        return "dial"
    if _number_wrong(numbering, event):
        return "number"
    if _unit_wrong(wheel, event):
        return "unit"
    if _lifts_wrong(size, event):
        return "lifts"
    if event[0] in ("below", "above", "part") and size >= MOST_DIALS:
        return "full"
    if event[0] in ("below", "above") and wheel * event[1] >= 10 ** 60:
        return "large"
    return None


def event_reason(numbering, event):
    """The first word that tells why the event, any value, cannot happen; None if none does."""
    if not is_event(event):
        return "event"
    reason = _form_reason(numbering, event)
    if reason is not None:
        return reason
    word = event[0]
    if word == "drop" and is_handing(numbering, event[1]):
        return "hands"
    if word == "lift" and above(numbering, event[1]) != ():
        return "above"
    if word == "merge" and not can_merge(numbering, event[1], event[2]):
        return "apart"
    if word == "weigh" and not is_numbering(weighed(numbering, event[1], event[2])):
        return "places"
    return None


def _grown_by(numbering, event):
    """The numbering behind an event with which a dial comes or goes."""
    word = event[0]
    if word == "below":
        return put_below(numbering, event[1], event[2], event[3])
    if word == "above":
        return put_above(numbering, event[1], event[2])
    if word == "drop":
        return dropped(numbering, event[1])
    if word == "lift":
        return lifted(numbering, event[1])
    if word == "part":
        return parted(numbering, event[1], event[2])
    return merged(numbering, event[1], event[2])


def _changed_by(numbering, event):
    """The numbering behind an event with which no dial comes or goes."""
    word = event[0]
    if word == "scale":
        return scaled(numbering, event[1])
    if word == "swap":
        return swapped(numbering, event[1], event[2])
    if word == "weigh":
        return weighed(numbering, event[1], event[2])
    if word == "twin":
        return twin_of(numbering)
    if word == "dual":
        return dual_of(numbering)
    return numbering


def after_event(numbering, event):
    """The numbering behind the event, any value, else InvalidEvent."""
    reason = event_reason(numbering, event)
    if reason is not None:
        raise InvalidEvent(event, reason)
    if event[0] in ("below", "above", "drop", "lift", "part", "merge"):
        return _grown_by(numbering, event)
    return _changed_by(numbering, event)
