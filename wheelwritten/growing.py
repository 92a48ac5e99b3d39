"""Numberings with one dial more, or one dial less."""

from math import gcd

from wheelwritten.carrying import is_handing
from wheelwritten.dividing import is_unit
from wheelwritten.kinds import is_less, is_range, is_tuple_under
from wheelwritten.reaching import above
from wheelwritten.usable import need


def put_below(numbering, times, unit, lifts):
    """The numbering with a new dial that hands to none behind the old ones, whose weights are lifted."""
    wheel, dials = numbering
    need(is_range(times), "times")
    need(is_unit(times, unit), "unit")
    need(is_tuple_under(times, lifts) and len(lifts) == len(dials), "lifts")
    lifted_dials = [(many, weight + lift * wheel) for (many, weight), lift in zip(dials, lifts)]
    return times * wheel, tuple(lifted_dials) + ((times, unit * wheel),)


def put_above(numbering, times, unit):
    """The numbering with a new dial above which there is none behind the old ones."""
    wheel, dials = numbering
    need(is_range(times), "times")
    need(is_less(times * wheel, unit) and gcd(times, unit) == 1, "unit")
    return times * wheel, tuple([(many, times * weight) for many, weight in dials]) + ((times, unit),)


def dropped(numbering, dial):
    """The numbering without the dial, which must hand to none."""
    wheel, dials = numbering
    need(is_less(len(dials), dial) and not is_handing(numbering, dial), "dial")
    new_wheel = wheel // dials[dial][0]
    return new_wheel, tuple([(many, weight % new_wheel) for many, weight in dials[:dial] + dials[dial + 1:]])


def lifted(numbering, dial):
    """The numbering without the dial, above which there must be none."""
    wheel, dials = numbering
    need(is_less(len(dials), dial) and above(numbering, dial) == (), "dial")
    times = dials[dial][0]
    return wheel // times, tuple([(many, weight // times) for many, weight in dials[:dial] + dials[dial + 1:]])
