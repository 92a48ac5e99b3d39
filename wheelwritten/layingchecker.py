"""The checker of whole layings."""

from wheelwritten.errors import InvalidPaper
from wheelwritten.kinds import is_less
from wheelwritten.laying import fills


def lets_laying(board, thing):
    """True if thing is a whole laying: then the board is a numbering. Else InvalidPaper."""
    if not isinstance(thing, tuple):
        raise InvalidPaper("shape", -1)
    left, dials = board
    for k, dial in enumerate(thing):
        if not is_less(len(dials), dial) or dial in thing[:k]:
            raise InvalidPaper("dial", k)
        if not fills(board, dial, left):
            raise InvalidPaper("full", k)
        left = left // dials[dial][0]
    if left > 1:
        raise InvalidPaper("rest", left)
    for dial in range(len(dials)):
        if dial not in thing:
            raise InvalidPaper("left", dial)
    return True


def is_whole_laying(board, thing):
    """Whether thing is a whole laying of the board."""
    try:
        return lets_laying(board, thing)
    except InvalidPaper:
        return False
