"""Boards: their ranges, weights, settings and places."""

from wheelwritten.dividing import product_of
from wheelwritten.kinds import is_board, is_setting
from wheelwritten.usable import need


def ranges_of(board):
    """The tuple of the ranges of the dials."""
    return tuple([many for many, _ in board[1]])


def weights_of(board):
    """The tuple of the weights of the dials."""
    return tuple([weight for _, weight in board[1]])


def place_by(board, figures):
    """The place that any integers at the dials stand for."""
    wheel, dials = board
    return sum([figure * dial[1] for dial, figure in zip(dials, figures)]) % wheel


def place_of(board, setting):
    """The place of the setting."""
    need(is_setting(board, setting), "setting")
    return place_by(board, setting)


def setting_numbered(ranges, number):
    """The setting with this position among all settings, ascending; ranges may have 1, too."""
    figures = []
    rest = number
    for many in reversed(ranges):
        figures.append(rest % many)
        rest = rest // many
    return tuple(figures[::-1])


def settings_of(board):
    """A generator of all settings, ascending."""
    ranges = ranges_of(board)
    for number in range(product_of(ranges)):
        yield setting_numbered(ranges, number)


def is_same_board(board, other, as_sets):
    """Whether other is equal to board; if as_sets, but for the sequence of the dials."""
    need(is_board(other), "other")
    need(isinstance(as_sets, bool), "as_sets")
    if as_sets:
        return board[0] == other[0] and sorted(board[1]) == sorted(other[1])
    return board == other
