"""Settings and places of a small board, gone through one by one."""

from wheelwritten.boards import place_by, settings_of
from wheelwritten.kinds import is_less
from wheelwritten.usable import need


def settings_at(board, place):
    """The set of the settings with this place."""
    need(is_less(board[0], place), "place")
    return tuple([setting for setting in settings_of(board) if place_by(board, setting) == place])


def places_of(board):
    """The tuple of the places of all settings, in the sequence of settings_of."""
    return tuple([place_by(board, setting) for setting in settings_of(board)])


def _counts(board):
    """How many settings each place has, a list."""
    counts = [0] * board[0]
    for place in places_of(board):
        counts[place] += 1
    return counts


def missed_places(board):
    """The set of the places without a setting."""
    return tuple([place for place, count in enumerate(_counts(board)) if count == 0])


def shared_places(board):
    """The set of the places with two settings or more."""
    return tuple([place for place, count in enumerate(_counts(board)) if count >= 2])
