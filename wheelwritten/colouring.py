"""Colourings: a number for each dial, unlike for tied dials."""

from wheelwritten.errors import InvalidPaper
from wheelwritten.kinds import is_number
from wheelwritten.ties import tied_rows, ties_of


def _coloured_on(rows, many, colours):
    """A colouring with at most many colours that begins with these, None if there is none; rows as of tied_rows."""
    dial = len(colours)
    if dial == len(rows):
        return colours
    barred = [colours[other] for other in rows[dial] if other < dial]
    # Of the colours that were not used, the least stands for all.
    for colour in range(min(many, max(colours, default=-1) + 2)):
        if colour not in barred:
            found = _coloured_on(rows, many, colours + (colour,))
            if found is not None:
                return found
    return None


def colouring_of(ranges):
    """A colouring with the fewest colours, its numbers less than how many they are."""
    rows = tied_rows(ranges)
    many = 0
    while True:
        found = _coloured_on(rows, many, ())
        if found is not None:
            return found
        many += 1


def fewest_colours(ranges):
    """The least number of colours of a colouring."""
    return len(set(colouring_of(ranges)))


def lets_colouring(ranges, thing):
    """How many colours the colouring thing has. Else InvalidPaper."""
    if not isinstance(thing, tuple) or len(thing) != len(ranges) or not all([is_number(colour) for colour in thing]):
        raise InvalidPaper("shape", -1)
    for one, other in ties_of(ranges):
        if thing[one] == thing[other]:
            raise InvalidPaper("tied", (one, other))
    return len(set(thing))
