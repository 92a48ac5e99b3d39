"""Laying dials aside, one by one, as long as one is full."""

from math import gcd

from wheelwritten.dividing import is_divisor
from wheelwritten.kinds import is_less, is_sequence
from wheelwritten.usable import need


def fills(board, dial, many):
    """Whether the dial, a position, is full at many, a divisor of the wheel."""
    size, weight = board[1][dial]
    return size * gcd(weight, many) == many


def is_full(board, dial, many):
    """Whether the dial is full at many."""
    need(is_less(len(board[1]), dial), "dial")
    need(is_divisor(board[0], many), "many")
    return fills(board, dial, many)


def full_dials(board, many):
    """The set of the dials that are full at many."""
    need(is_divisor(board[0], many), "many")
    return tuple([dial for dial in range(len(board[1])) if fills(board, dial, many)])


def laid_along(board, sequence):
    """The pair (laying, what is left) if only the dials of sequence are taken, the first full one first."""
    left, dials = board
    lacking = list(sequence)
    taken = []
    full = [dial for dial in lacking if fills(board, dial, left)]
    while full != []:
        taken.append(full[0])
        lacking.remove(full[0])
        left = left // dials[full[0]][0]
        full = [dial for dial in lacking if fills(board, dial, left)]
    return tuple(taken), left


def laying_of(board):
    """The pair (laying, what is left) if the least full dial is taken each time."""
    return laid_along(board, tuple(range(len(board[1]))))


def laying_by(board, sequence):
    """The pair (laying, what is left) if the full dial that is first in sequence is taken each time."""
    need(is_sequence(len(board[1]), sequence), "sequence")
    return laid_along(board, sequence)


def is_numbering(board):
    """Whether each place of the board has exactly one setting."""
    taken, left = laying_of(board)
    return len(taken) == len(board[1]) and left == 1
