"""Adding settings, by the places and by carries."""

from wheelwritten.boards import place_by
from wheelwritten.carrying import carries_of
from wheelwritten.kinds import is_integer, is_setting
from wheelwritten.layingchecker import is_whole_laying
from wheelwritten.usable import need
from wheelwritten.writing import written


def figure_sums(one, other):
    """The figures of two settings, added dial by dial."""
    return tuple([figure + other_figure for figure, other_figure in zip(one, other)])


def _need_two(numbering, one, other):
    """NotUsable unless one and other are settings."""
    need(is_setting(numbering, one), "one")
    need(is_setting(numbering, other), "other")


def added(numbering, one, other):
    """The sum of the two settings."""
    _need_two(numbering, one, other)
    return written(numbering, place_by(numbering, one) + place_by(numbering, other))


def taken_off(numbering, one, other):
    """The setting whose sum with other is one."""
    _need_two(numbering, one, other)
    return written(numbering, place_by(numbering, one) - place_by(numbering, other))


def opposite(numbering, setting):
    """The setting whose sum with this one has place 0."""
    need(is_setting(numbering, setting), "setting")
    return written(numbering, -place_by(numbering, setting))


def times(numbering, setting, many):
    """The setting of many times the place of the setting, many any integer."""
    need(is_setting(numbering, setting), "setting")
    need(is_integer(many), "many")
    return written(numbering, many * place_by(numbering, setting))


def adding_steps(numbering, one, other, sequence):
    """The tuple of the totals at first and behind each dial, in the reverse of the whole laying sequence."""
    _need_two(numbering, one, other)
    need(is_whole_laying(numbering, sequence), "sequence")
    carries = carries_of(numbering)
    totals = figure_sums(one, other)
    steps = [totals]
    for dial in reversed(sequence):
        quotient, rest = divmod(totals[dial], numbering[1][dial][0])
        kept = totals[:dial] + (rest,) + totals[dial + 1:]
        totals = tuple([total + quotient * figure for total, figure in zip(kept, carries[dial])])
        steps.append(totals)
    return tuple(steps)
