"""All lots of a wheel."""

from wheelwritten.factoring import divisors_of
from wheelwritten.kinds import is_less
from wheelwritten.lots import is_lot
from wheelwritten.searching import subsets_of
from wheelwritten.usable import need


def _lots_of(wheel):
    """The list of all lots of the wheel, ascending."""
    divisors = divisors_of(wheel)
    rows = [tuple([divisors[k] for k in part]) for part in subsets_of(len(divisors))]
    return sorted([row for row in rows if is_lot(wheel, row)])


def all_lots(wheel):
    """A generator of all lots of the wheel, ascending."""
    for lot in _lots_of(wheel):
        yield lot


def how_many_lots(wheel):
    """How many lots the wheel has."""
    return len(_lots_of(wheel))


def lot_at(wheel, place):
    """The lot of the wheel at this position of all_lots."""
    lots = _lots_of(wheel)
    need(is_less(len(lots), place), "place")
    return lots[place]


def number_of_lot(wheel, lot):
    """The position of the lot in all_lots."""
    need(is_lot(wheel, lot), "lot")
    return _lots_of(wheel).index(lot)
