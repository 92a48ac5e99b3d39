"""Lots told by pairs of levels."""

from wheelwritten.factoring import divisors_of, power_of
from wheelwritten.kinds import is_integer, is_pair
from wheelwritten.levels import wheel_levels
from wheelwritten.lots import base_in, firm_in, is_lot
from wheelwritten.usable import need


def _has_level(many, level):
    """Whether the divisor many of the wheel has the level."""
    prime, exponent = level
    return many % power_of(prime, exponent) == 0


def _goes_with(many, pair):
    """Whether many has the first level of the pair, if it has the second one."""
    first, second = pair
    return _has_level(many, first) or not _has_level(many, second)


def level_pairs(wheel, lot):
    """The set of the pairs (x, y) of unlike levels such that each member that has y has x."""
    need(is_lot(wheel, lot), "lot")
    levels = wheel_levels(wheel)
    pairs = [(first, second) for first in levels for second in levels if first != second]
    return tuple([pair for pair in pairs if all([_goes_with(member, pair) for member in lot])])


def _are_level_pairs(wheel, thing):
    """Whether thing is a set of pairs of levels of the wheel."""
    if not isinstance(thing, tuple) or not all([is_pair(pair) for pair in thing]):
        return False
    levels = [level for pair in thing for level in pair]
    if not all([is_pair(level) and is_integer(level[0]) and is_integer(level[1]) for level in levels]):
        return False
    own = wheel_levels(wheel)
    return all([level in own for level in levels]) and list(thing) == sorted(set(thing))


def lot_by_pairs(wheel, pairs):
    """The lot of the divisors of the wheel that have x if they have y, for each pair (x, y)."""
    need(_are_level_pairs(wheel, pairs), "pairs")
    return tuple([many for many in divisors_of(wheel) if all([_goes_with(many, pair) for pair in pairs])])


def level_classes(wheel, lot):
    """The tuple with, for each firm member, the set of the levels that it has and its base has not."""
    need(is_lot(wheel, lot), "lot")
    levels = wheel_levels(wheel)
    classes = []
    for member in firm_in(lot):
        base = base_in(lot, member)
        classes.append(tuple([level for level in levels if _has_level(member, level) and not _has_level(base, level)]))
    return tuple(classes)
