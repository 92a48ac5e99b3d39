"""On which dials the figure of a sum at a dial hangs."""

from wheelwritten.boards import place_by, ranges_of
from wheelwritten.errors import InvalidPaper
from wheelwritten.kinds import is_less, is_setting
from wheelwritten.reaching import above
from wheelwritten.searching import subsets_of
from wheelwritten.sums import added
from wheelwritten.usable import need
from wheelwritten.writing import written


def _need_dials(numbering, dial, other):
    """NotUsable unless dial and other are dials."""
    size = len(numbering[1])
    need(is_less(size, dial), "dial")
    need(is_less(size, other), "other")


def hang_set(numbering, dial):
    """The set of the dials on which the dial hangs."""
    return tuple(sorted(above(numbering, dial) + (dial,)))


def hangs(numbering, dial, other):
    """Whether the dial hangs on the other one."""
    _need_dials(numbering, dial, other)
    return other in hang_set(numbering, dial)


def changing_setting(numbering, dial, step):
    """A setting whose figure at the dial changes if its place moves by step, any integer; None if there is none.

    Only first and last figures are tried. A dial that is handed no multiple of its range hands on one more
    with its last figure than with its first one. So, from the dials above on, each dial that changes can be
    set such that the first dial which it hands to, of those on the way to the told one, changes too.
    """
    ranges = ranges_of(numbering)
    for last in subsets_of(len(ranges)):
        setting = tuple([many - 1 if k in last else 0 for k, many in enumerate(ranges)])
        if written(numbering, place_by(numbering, setting) + step)[dial] != setting[dial]:
            return setting
    return None


def hang_shown(numbering, dial, other):
    """A triple of settings that shows that the dial hangs on the other one, None if it does not."""
    if not hangs(numbering, dial, other):
        return None
    size = len(numbering[1])
    step = numbering[1][other][1]
    one_on = tuple([1 if k == other else 0 for k in range(size)])
    return (0,) * size, one_on, changing_setting(numbering, dial, step)


def _check_unlike(one, changed, other):
    """InvalidPaper unless the settings are unlike at the dial other alone."""
    for dial in range(len(one)):
        if dial != other and one[dial] != changed[dial]:
            raise InvalidPaper("unlike", dial)
    if one[other] == changed[other]:
        raise InvalidPaper("unlike", other)


def lets_hang(numbering, dial, other, thing):
    """The pair of the figures that show that the dial hangs on the other one. Else InvalidPaper."""
    _need_dials(numbering, dial, other)
    if not isinstance(thing, tuple) or len(thing) != 3:
        raise InvalidPaper("shape", -1)
    for k in range(3):
        if not is_setting(numbering, thing[k]):
            raise InvalidPaper("setting", k)
    one, changed, third = thing
    _check_unlike(one, changed, other)
    figures = (added(numbering, one, third)[dial], added(numbering, changed, third)[dial])
    if figures[0] == figures[1]:
        raise InvalidPaper("same", -1)
    return figures
