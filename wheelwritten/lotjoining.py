"""Lots made of members, and of other lots."""

from math import gcd, lcm

from wheelwritten.dividing import is_divisor
from wheelwritten.kinds import is_integer
from wheelwritten.lots import is_lot
from wheelwritten.usable import need


def _are_divisors(wheel, thing):
    """Whether thing is a set of divisors of the wheel."""
    if not isinstance(thing, tuple) or not all([is_divisor(wheel, member) for member in thing]):
        return False
    return list(thing) == sorted(set(thing))


def _all_made(members, make):
    """The members, and all that make, gcd or lcm, makes of any of them."""
    made = [members[0]]
    for member in members[1:]:
        made = sorted(set(made + [member] + [make(member, other) for other in made]))
    return made


def least_lot(wheel, members):
    """The least lot of the wheel that has all of members, a set of divisors."""
    need(_are_divisors(wheel, members), "members")
    meets = _all_made(sorted(set((1, wheel) + members)), lambda one, other: gcd(one, other))
    # The gcd of an lcm and a number is the lcm of gcds with it, so the lcms of gcds have all gcds among them.
    return tuple(_all_made(meets, lambda one, other: lcm(one, other)))


def joint_lot(wheel, lot, other):
    """The least lot of the wheel that has all members of both lots."""
    need(is_lot(wheel, lot), "lot")
    need(is_lot(wheel, other), "other")
    return least_lot(wheel, tuple(sorted(set(lot + other))))


def shared_lot(wheel, lot, other):
    """The lot of the members that both lots have."""
    need(is_lot(wheel, lot), "lot")
    need(is_lot(wheel, other), "other")
    return tuple([member for member in lot if member in other])


def lot_turned(wheel, lot):
    """The lot of the quotients of the wheel by the members."""
    need(is_lot(wheel, lot), "lot")
    return tuple([wheel // member for member in reversed(lot)])


def refines(wheel, lot, other):
    """Whether each member of the lot other is a member of lot."""
    need(is_lot(wheel, lot), "lot")
    need(is_lot(wheel, other), "other")
    return all([member in lot for member in other])


def section_lot(wheel, lot, low, high):
    """The lot of the quotients by low of the members that low divides and that divide high."""
    need(is_lot(wheel, lot), "lot")
    need(is_integer(low) and low in lot, "low")
    need(is_integer(high) and high in lot and high % low == 0, "high")
    return tuple([member // low for member in lot if member % low == 0 and high % member == 0])
