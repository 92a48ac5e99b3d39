"""Pairs of settings whose sum takes the most rounds of carries."""

from wheelwritten.boards import ranges_of
from wheelwritten.carrying import carries_of
from wheelwritten.errors import InvalidPaper
from wheelwritten.kinds import is_pair, is_setting
from wheelwritten.reaching import longest_row
from wheelwritten.rounds import last_handing, round_by
from wheelwritten.sums import figure_sums


def worst_pair(numbering):
    """A pair of settings for which last_handing of their figures, added, is the depth."""
    ranges = ranges_of(numbering)
    carries = carries_of(numbering)
    row = longest_row(numbering)
    one = [0] * len(ranges)
    other = [0] * len(ranges)
    for k, dial in enumerate(row):
        many = ranges[dial]
        if k == 0:
            one[dial] = many - 1
            other[dial] = 1
            continue
        # What the dial is handed hangs on the dials above it alone, so its own figure may still be chosen:
        # it is to have its last figure just when the dial ahead hands to it, in round k.
        totals = figure_sums(one, other)
        for _ in range(k - 1):
            totals = round_by(ranges, carries, totals)
        one[dial] = (many - 1 - totals[dial]) % many
    return tuple(one), tuple(other)


def lets_worst(numbering, thing):
    """The last_handing of a pair of settings: the depth is at least that. Else InvalidPaper."""
    if not is_pair(thing):
        raise InvalidPaper("shape", -1)
    for k in range(2):
        if not is_setting(numbering, thing[k]):
            raise InvalidPaper("setting", k)
    return last_handing(numbering, figure_sums(thing[0], thing[1]))
