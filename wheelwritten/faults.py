"""Faults: what shows that a board is no numbering."""

from wheelwritten.boardchecker import lets_board
from wheelwritten.boards import ranges_of
from wheelwritten.dividing import product_of, turns_in
from wheelwritten.errors import NoNumbering
from wheelwritten.laidfigures import figures_laid
from wheelwritten.laying import is_numbering, laying_of


def stuck_at(board):
    """What is left by laying_of."""
    return laying_of(board)[1]


def twice_of(board):
    """A pair of unlike settings with the same place, None if no dial left turns too soon."""
    wheel, dials = board
    taken, left = laying_of(board)
    for dial, (many, weight) in enumerate(dials):
        turns = turns_in(left, weight)
        if dial not in taken and turns < many:
            one = [0] * len(dials)
            one[dial] = turns
            # So many steps of it are a multiple of what is left: the dials taken write the same place.
            return tuple(one), figures_laid(board, taken, turns * weight % wheel)
    return None


def fault_of(board):
    """A fault of the board, None for a numbering."""
    if is_numbering(board):
        return None
    product = product_of(ranges_of(board))
    if product != board[0]:
        return "product", product
    pair = twice_of(board)
    if pair is not None:
        one, other = pair
        return "twice", one, other
    return "blind", stuck_at(board)


def need_numbering(board):
    """InvalidPaper of lets_board for any value that is no board, NoNumbering for a board that is no numbering."""
    lets_board(board)
    fault = fault_of(board)
    if fault is not None:
        raise NoNumbering(fault)
