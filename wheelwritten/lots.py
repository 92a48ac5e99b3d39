"""Lots: sets of divisors of a wheel with 1, the wheel, and all gcds and lcms."""

from math import gcd, lcm

from wheelwritten.boards import ranges_of
from wheelwritten.closings import closed_sets, product_on
from wheelwritten.dividing import is_divisor
from wheelwritten.errors import InvalidPaper
from wheelwritten.kinds import is_integer
from wheelwritten.usable import need


def _member_wrong(wheel, members):
    """The position of the first that is no divisor of the wheel, or not greater than the one ahead, else None."""
    for k, member in enumerate(members):
        if not is_divisor(wheel, member) or k > 0 and member <= members[k - 1]:
            return k
    return None


def _pair_wrong(members):
    """The pair (word, pair) for the first pair of members whose gcd or lcm is lacking, else None."""
    own = set(members)
    for k, one in enumerate(members):
        for other in members[k + 1:]:
            if gcd(one, other) not in own:
                return "gcd", (one, other)
            if lcm(one, other) not in own:
                return "lcm", (one, other)
    return None


def lot_wrong(wheel, thing):
    """The pair (word, position) of what first keeps thing from being a lot of the wheel, None for a lot."""
    if not isinstance(thing, tuple) or not all([is_integer(member) for member in thing]):
        return "shape", -1
    at = _member_wrong(wheel, thing)
    if at is not None:
        return "member", at
    if 1 not in thing:
        return "one", 1
    if wheel not in thing:
        return "wheel", wheel
    return _pair_wrong(thing)


def is_lot(wheel, thing):
    """Whether thing is a lot of the wheel."""
    return lot_wrong(wheel, thing) is None


def base_in(lot, member):
    """The lcm of the smaller members that divide the member: its base, if it is firm, else the member."""
    base = 1
    for smaller in lot:
        if smaller < member and member % smaller == 0:
            base = lcm(base, smaller)
    return base


def firm_in(lot):
    """The set of the firm members of the lot."""
    return tuple([member for member in lot if base_in(lot, member) < member])


def lets_lot(wheel, thing):
    """How many members of the lot thing are firm. Else InvalidPaper."""
    wrong = lot_wrong(wheel, thing)
    if wrong is not None:
        word, at = wrong
        raise InvalidPaper(word, at)
    return len(firm_in(thing))


def lot_of(numbering):
    """The lot of the numbering: the set of the products of its closed sets."""
    ranges = ranges_of(numbering)
    return tuple(sorted([product_on(ranges, dials) for dials in closed_sets(numbering)]))


def firm_of(wheel, lot):
    """The set of the firm members of the lot."""
    need(is_lot(wheel, lot), "lot")
    return firm_in(lot)


def base_of(wheel, lot, member):
    """The base of a firm member of the lot."""
    need(is_lot(wheel, lot), "lot")
    need(is_integer(member) and member in firm_in(lot), "member")
    return base_in(lot, member)


def lot_board(wheel, lot):
    """The straight numbering with a dial for each firm member of the lot."""
    need(is_lot(wheel, lot), "lot")
    return wheel, tuple([(member // base_in(lot, member), wheel // member) for member in firm_in(lot)])
