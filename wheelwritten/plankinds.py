"""Passes and plans, right or not, and their exponents."""

from wheelwritten.faultchecker import has_form
from wheelwritten.kinds import is_less, is_setting
from wheelwritten.usable import need

LENGTHS = {"sum": 3, "twist": 2}


def _is_term(numbering, thing):
    """Whether thing is a triple of two dials, the first less than the second, and a place greater than 0."""
    wheel, dials = numbering
    if not isinstance(thing, tuple) or len(thing) != 3:
        return False
    one, two, factor = thing
    if not is_less(len(dials), one) or not is_less(len(dials), two) or not is_less(wheel, factor):
        return False
    return one < two and factor > 0


def _are_terms(numbering, thing):
    """Whether thing is a set of terms, no two of them with the same dials."""
    if not isinstance(thing, tuple) or not all([_is_term(numbering, term) for term in thing]):
        return False
    return all([thing[k - 1][:2] < thing[k][:2] for k in range(1, len(thing))])


def is_pass(numbering, thing):
    """Whether thing is a pass, for the dials and places of the numbering."""
    if not has_form(thing, dict(LENGTHS)):
        return False
    if thing[0] == "twist":
        return _are_terms(numbering, thing[1])
    wheel, dials = numbering
    return is_less(len(dials), thing[1]) and is_less(wheel, thing[2])


def summed_in(passes):
    """The tuple of the dials in the sequence of their sums, for any passes."""
    return tuple([single[1] for single in passes if single[0] == "sum"])


def is_plan(numbering, thing):
    """Whether thing is a plan, right or not."""
    if not isinstance(thing, tuple) or not all([is_pass(numbering, single) for single in thing]):
        return False
    return sorted(summed_in(thing)) == list(range(len(numbering[1])))


def sums_of(numbering, plan):
    """The tuple of the dials in the sequence of their sums."""
    need(is_plan(numbering, plan), "plan")
    return summed_in(plan)


def twists_in(plan):
    """How many passes are twists, for any passes."""
    return len([single for single in plan if single[0] == "twist"])


def how_many_twists(numbering, plan):
    """How many passes are twists, with terms or without."""
    need(is_plan(numbering, plan), "plan")
    return twists_in(plan)


def exponent_of(numbering, plan, one, other):
    """The exponent of the plan at the settings one and other."""
    need(is_plan(numbering, plan), "plan")
    need(is_setting(numbering, one), "one")
    need(is_setting(numbering, other), "other")
    exponent = 0
    figures = list(one)
    for single in plan:
        if single[0] == "sum":
            _, dial, factor = single
            exponent += factor * one[dial] * other[dial]
            figures[dial] = other[dial]
        else:
            exponent += sum([factor * figures[first] * figures[second] for first, second, factor in single[1]])
    return exponent % numbering[0]
