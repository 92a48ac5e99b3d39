"""Settings that are moved on, step by step."""

from wheelwritten.boards import place_by
from wheelwritten.kinds import is_integer, is_number, is_setting
from wheelwritten.usable import need
from wheelwritten.writing import written


def moved(numbering, setting, step):
    """The setting of the place of setting plus step, any integer."""
    need(is_setting(numbering, setting), "setting")
    need(is_integer(step), "step")
    return written(numbering, place_by(numbering, setting) + step)


def next_setting(numbering, setting):
    """The setting of the next place."""
    return moved(numbering, setting, 1)


def setting_ahead(numbering, setting):
    """The setting of the place ahead."""
    return moved(numbering, setting, -1)


def changed(numbering, setting, step):
    """The set of the dials at which setting and the moved one are unlike."""
    after = moved(numbering, setting, step)
    return tuple([dial for dial in range(len(setting)) if setting[dial] != after[dial]])


def trip(numbering, setting, step, times):
    """A generator of so many settings: setting first, then each moved by step from the one ahead."""
    need(is_setting(numbering, setting), "setting")
    need(is_integer(step), "step")
    need(is_number(times), "times")
    place = place_by(numbering, setting)
    for k in range(times):
        yield written(numbering, place + k * step)
