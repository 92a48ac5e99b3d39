"""Which rests of a place tell its figure at a dial."""

from wheelwritten.boards import place_by
from wheelwritten.dividing import is_divisor, product_of
from wheelwritten.errors import InvalidPaper
from wheelwritten.hanging import changing_setting, hang_set
from wheelwritten.kinds import is_less, is_pair
from wheelwritten.usable import need
from wheelwritten.writing import figure_at


def least_rest(numbering, dial):
    """The least divisor of the wheel that tells the dial."""
    return product_of([numbering[1][other][0] for other in hang_set(numbering, dial)])


def tells(numbering, dial, many):
    """Whether all places with the same rest by many have the same figure at the dial."""
    need(is_less(len(numbering[1]), dial), "dial")
    need(is_divisor(numbering[0], many), "many")
    return many % least_rest(numbering, dial) == 0


def figure_by_rest(numbering, dial, many, rest):
    """The figure at the dial of the places with this rest by many, None if many does not tell it."""
    telling = tells(numbering, dial, many)
    need(is_less(many, rest), "rest")
    if not telling:
        return None
    return figure_at(numbering, rest, dial)


def rest_shown(numbering, dial, many):
    """A pair of places with the same rest by many and unlike figures at the dial, None if many tells it."""
    if tells(numbering, dial, many):
        return None
    place = place_by(numbering, changing_setting(numbering, dial, many))
    return place, (place + many) % numbering[0]


def lets_rest(numbering, dial, many, thing):
    """The pair of the figures that show that many does not tell the dial. Else InvalidPaper."""
    need(is_less(len(numbering[1]), dial), "dial")
    need(is_divisor(numbering[0], many), "many")
    if not is_pair(thing):
        raise InvalidPaper("shape", -1)
    for k in range(2):
        if not is_less(numbering[0], thing[k]):
            raise InvalidPaper("place", k)
    one, other = thing
    if one % many != other % many:
        raise InvalidPaper("rest", -1)
    figures = (figure_at(numbering, one, dial), figure_at(numbering, other, dial))
    if figures[0] == figures[1]:
        raise InvalidPaper("same", -1)
    return figures
