"""The checker of faults."""

from wheelwritten.boards import place_by, ranges_of
from wheelwritten.dividing import is_divisor, product_of
from wheelwritten.errors import InvalidPaper
from wheelwritten.kinds import is_integer, is_setting

LENGTHS = {"product": 2, "twice": 3, "blind": 2}


def has_form(thing, lengths):
    """Whether thing is a tuple that begins with a word of lengths and is as long as that tells."""
    if not isinstance(thing, tuple) or thing == () or not isinstance(thing[0], str):
        return False
    return len(thing) == lengths.get(thing[0], 0)


def _check_product(board, product):
    """InvalidPaper unless this is the product of the ranges, and not the wheel."""
    if not is_integer(product) or product != product_of(ranges_of(board)) or product == board[0]:
        raise InvalidPaper("product", 1)


def _check_twice(board, one, other):
    """InvalidPaper unless one and other are unlike settings with the same place."""
    if not is_setting(board, one):
        raise InvalidPaper("setting", 1)
    if not is_setting(board, other):
        raise InvalidPaper("setting", 2)
    if one == other:
        raise InvalidPaper("alike", -1)
    if place_by(board, one) != place_by(board, other):
        raise InvalidPaper("place", -1)


def _check_blind(board, many):
    """InvalidPaper unless no dial reaches a multiple of many just behind its last figure."""
    if not is_divisor(board[0], many) or many == 1:
        raise InvalidPaper("blind", 1)
    for dial, (size, weight) in enumerate(board[1]):
        if size * weight % many == 0 and weight % many != 0:
            raise InvalidPaper("dial", dial)


def lets_fault(board, thing):
    """The word of the fault thing: the board is no numbering. Else InvalidPaper."""
    if not has_form(thing, dict(LENGTHS)):
        raise InvalidPaper("shape", -1)
    word = thing[0]
    if word == "product":
        _check_product(board, thing[1])
    elif word == "twice":
        _check_twice(board, thing[1], thing[2])
    else:
        _check_blind(board, thing[1])
    return word


def is_fault(board, thing):
    """Whether thing is a fault of the board."""
    try:
        lets_fault(board, thing)
    except InvalidPaper:
        return False
    return True
