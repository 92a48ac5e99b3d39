"""Numbers in digits of told ranges, the first ones lowest."""

from wheelwritten.boards import place_by
from wheelwritten.dividing import product_of
from wheelwritten.kinds import is_less, is_number, is_setting
from wheelwritten.makers import digit_board
from wheelwritten.usable import need


def settled_by(ranges, totals):
    """The rests of the totals if each dial adds its quotient to the total of the next one."""
    rests = []
    quotient = 0
    for many, total in zip(ranges, totals):
        quotient, rest = divmod(total + quotient, many)
        rests.append(rest)
    return tuple(rests)


def figures_by(ranges, number):
    """The setting of the place number in digit_board."""
    need(is_less(product_of(ranges), number), "number")
    return settled_by(ranges, (number,) + (0,) * (len(ranges) - 1))


def number_by(ranges, figures):
    """The place of the setting figures in digit_board."""
    board = digit_board(ranges)
    need(is_setting(board, figures), "figures")
    return place_by(board, figures)


def loose_product(ranges, one, other):
    """The product of two rows of figures without carries, as long as they are; all ranges must be equal."""
    need(len(set(ranges)) < 2, "ranges")
    board = digit_board(ranges)
    need(is_setting(board, one), "one")
    need(is_setting(board, other), "other")
    return tuple([sum([one[low] * other[k - low] for low in range(k + 1)]) for k in range(len(ranges))])


def settled(ranges, totals):
    """The rests if each dial keeps the rest of its total and adds the quotient to the total of the next one."""
    need(isinstance(totals, tuple) and len(totals) == len(ranges), "totals")
    need(all([is_number(total) for total in totals]), "totals")
    return settled_by(ranges, totals)
