"""Boards with scaled weights, and with resorted dials."""

from wheelwritten.dividing import is_unit
from wheelwritten.kinds import is_sequence
from wheelwritten.usable import need


def scaled(board, unit):
    """The board with all weights multiplied by a unit of the wheel."""
    wheel, dials = board
    need(is_unit(wheel, unit), "unit")
    return wheel, tuple([(many, weight * unit % wheel) for many, weight in dials])


def resorted(board, sequence):
    """The board whose dial k is the old dial sequence[k]."""
    wheel, dials = board
    need(is_sequence(len(dials), sequence), "sequence")
    return wheel, tuple([dials[dial] for dial in sequence])
