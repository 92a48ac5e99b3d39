"""Writing the places of a numbering."""

from wheelwritten.kinds import is_less
from wheelwritten.laidfigures import figures_laid
from wheelwritten.laying import laying_of
from wheelwritten.usable import need


def written(numbering, number):
    """The setting of the place that any integer stands for."""
    return figures_laid(numbering, laying_of(numbering)[0], number % numbering[0])


def setting_of(numbering, place):
    """The setting of the place."""
    need(is_less(numbering[0], place), "place")
    return written(numbering, place)


def figure_at(numbering, place, dial):
    """The figure at the dial in the setting of the place."""
    need(is_less(numbering[0], place), "place")
    need(is_less(len(numbering[1]), dial), "dial")
    return written(numbering, place)[dial]


def all_written(numbering):
    """The tuple of the settings of all places, one by one."""
    laying = laying_of(numbering)[0]
    return tuple([figures_laid(numbering, laying, place) for place in range(numbering[0])])
