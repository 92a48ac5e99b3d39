"""How often the figures at the dials change if all places move by a step."""

from wheelwritten.hanging import hang_set
from wheelwritten.kinds import is_integer, is_less
from wheelwritten.usable import need
from wheelwritten.writing import all_written, written


def changes_table(numbering, step):
    """The tuple of changes_of for all dials."""
    need(is_integer(step), "step")
    wheel, dials = numbering
    rows = all_written(numbering)
    counts = [0] * len(dials)
    for place, row in enumerate(rows):
        after = rows[(place + step) % wheel]
        for dial in range(len(dials)):
            if row[dial] != after[dial]:
                counts[dial] += 1
    return tuple(counts)


def changes_of(numbering, dial, step):
    """For how many places the figure at the dial is unlike that of the place plus step."""
    need(is_less(len(numbering[1]), dial), "dial")
    return changes_table(numbering, step)[dial]


def still_dials(numbering, step):
    """The set of the dials whose figure changes for no place that moves by step."""
    need(is_integer(step), "step")
    setting = written(numbering, step)
    still = []
    for dial in range(len(setting)):
        if all([setting[other] == 0 for other in hang_set(numbering, dial)]):
            still.append(dial)
    return tuple(still)
