"""How alike two numberings are."""

from wheelwritten.boards import is_same_board, ranges_of
from wheelwritten.kinds import is_board
from wheelwritten.laying import is_numbering
from wheelwritten.lots import lot_of
from wheelwritten.reaching import reach_of
from wheelwritten.usable import need


def likeness(numbering, other):
    """The first word that holds for the two numberings."""
    need(is_board(other) and is_numbering(other), "other")
    if numbering == other:
        return "same"
    if is_same_board(numbering, other, True):
        return "sorted"
    if ranges_of(numbering) == ranges_of(other) and reach_of(numbering) == reach_of(other):
        return "twins"
    if numbering[0] != other[0]:
        return "none"
    if lot_of(numbering) == lot_of(other):
        return "lots"
    return "wheels"
