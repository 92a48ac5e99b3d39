"""Pairs of numberings with the same wheel and ranges, small and great, and what is no such pair."""

from tests.common import BOTH, CLOCK, DIGITS, NO_TUPLES, NONE, RESTS, boards_with, great_numberings
from wheelwritten.duals import dual_of
from wheelwritten.laying import is_numbering
from wheelwritten.straights import twin_of

PAIR = (12, ((2, 3), (3, 2), (2, 6)))
ODDS = (12, ((2, 1), (3, 2), (2, 6)))
WRONG_OTHERS = NO_TUPLES + ((), NONE, RESTS, BOTH, DIGITS, (12, ((3, 4), (2, 6), (2, 1))), (12, ((2, 6), (3, 4), (2, 2))), [12, CLOCK[1]],
                            (12, list(CLOCK[1])), (12, ((2, 6), (3, 4), (2, True))), (24, CLOCK[1]), (12, ((2, 6), (3, 4))), (True, ()),
                            (12, ((2, 6), (3, 4), (2, 1), (2, 1))), (12, ((2, 0), (3, 4), (2, 1))))


def ranges_of(board):
    return tuple(many for many, _ in board[1])


def same_ranges(board):
    """All numberings with the wheel and the ranges of the board."""
    return [other for other in boards_with(board[0], ranges_of(board)) if is_numbering(other)]


def great_pairs():
    """Great numberings beside others with the same ranges: scaled ones, duals, twins, and digits."""
    for board in great_numberings():
        yield board, board
        yield board, dual_of(board)
        yield board, twin_of(board)
        weights, weight = [], 1
        for many in ranges_of(board):
            weights.append(weight)
            weight *= many
        yield board, (board[0], tuple(zip(ranges_of(board), weights)))
