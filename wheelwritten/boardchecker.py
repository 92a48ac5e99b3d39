"""The checker of boards."""

from wheelwritten.errors import InvalidPaper
from wheelwritten.kinds import board_wrong


def lets_board(thing):
    """The pair of wheel and size of the board thing, else InvalidPaper."""
    wrong = board_wrong(thing)
    if wrong is not None:
        word, at = wrong
        raise InvalidPaper(word, at)
    return thing[0], len(thing[1])
