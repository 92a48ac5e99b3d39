"""The checkers of filled boards, and of what shows that a board cannot be filled up."""

from wheelwritten.errors import InvalidPaper
from wheelwritten.faultchecker import has_form, is_fault
from wheelwritten.filling import level_fault, with_free_levels
from wheelwritten.kinds import is_board, is_integer, is_less
from wheelwritten.laying import is_numbering
from wheelwritten.levels import levels_of, wheel_levels

LENGTHS = {"zero": 2, "level": 4, "shared": 5, "full": 2}


def lets_filling(board, thing):
    """How many dials of thing are new, if it is a numbering that fills up the board. Else InvalidPaper."""
    if not is_board(thing):
        raise InvalidPaper("shape", -1)
    if thing[0] != board[0]:
        raise InvalidPaper("wheel", 0)
    for k, dial in enumerate(board[1]):
        if k >= len(thing[1]) or thing[1][k] != dial:
            raise InvalidPaper("dial", k)
    if not is_numbering(thing):
        raise InvalidPaper("fault", -1)
    return len(thing[1]) - len(board[1])


def _has_level(board, dial, prime, level):
    """Whether the dial has the level (prime, level), of any values."""
    levels = levels_of(board, dial)
    if levels is None or not is_integer(prime) or not is_integer(level):
        return False
    return (prime, level) in levels


def _check_zero(board, dial):
    """InvalidPaper unless the dial has the weight 0."""
    dials = board[1]
    if not is_less(len(dials), dial) or dials[dial][1] != 0:
        raise InvalidPaper("dial", 1)


def _check_level(board, dial, prime, level):
    """InvalidPaper unless the dial has the level, and the wheel has it not."""
    if not is_less(len(board[1]), dial):
        raise InvalidPaper("dial", 1)
    if not _has_level(board, dial, prime, level) or (prime, level) in wheel_levels(board[0]):
        raise InvalidPaper("level", -1)


def _check_shared(board, one, other, prime, level):
    """InvalidPaper unless both dials, one less than other, have the level."""
    size = len(board[1])
    if not is_less(size, one):
        raise InvalidPaper("dial", 1)
    if not is_less(size, other) or other <= one:
        raise InvalidPaper("dial", 2)
    if not _has_level(board, one, prime, level) or not _has_level(board, other, prime, level):
        raise InvalidPaper("level", -1)


def _check_full(board, fault):
    """InvalidPaper unless all levels fit, and fault is one of the board with its free levels."""
    if level_fault(board) is not None or not is_fault(with_free_levels(board), fault):
        raise InvalidPaper("full", -1)


def lets_nofilling(board, thing):
    """The word of thing, if it shows that the board cannot be filled up. Else InvalidPaper."""
    if not has_form(thing, dict(LENGTHS)):
        raise InvalidPaper("shape", -1)
    word = thing[0]
    if word == "zero":
        _check_zero(board, thing[1])
    elif word == "level":
        _check_level(board, thing[1], thing[2], thing[3])
    elif word == "shared":
        _check_shared(board, thing[1], thing[2], thing[3], thing[4])
    else:
        _check_full(board, thing[1])
    return word
