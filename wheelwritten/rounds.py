"""Rounds, in which all dials hand on their carries at once."""

from wheelwritten.boards import ranges_of
from wheelwritten.carrying import carries_of, handing_dials
from wheelwritten.kinds import is_number, is_setting
from wheelwritten.usable import need


def _need_totals(numbering, totals):
    """NotUsable unless totals is a tuple with a number for each dial."""
    need(isinstance(totals, tuple) and len(totals) == len(numbering[1]), "totals")
    need(all([is_number(total) for total in totals]), "totals")


def round_by(ranges, carries, totals):
    """The totals after one round."""
    new = [total % many for total, many in zip(totals, ranges)]
    for dial, many in enumerate(ranges):
        quotient = totals[dial] // many
        new = [total + quotient * figure for total, figure in zip(new, carries[dial])]
    return tuple(new)


def one_round(numbering, totals):
    """The totals after one round."""
    _need_totals(numbering, totals)
    return round_by(ranges_of(numbering), carries_of(numbering), totals)


def rounds_of(numbering, totals):
    """The tuple of the totals and of those after each round, up to the first that is a setting."""
    _need_totals(numbering, totals)
    ranges = ranges_of(numbering)
    carries = carries_of(numbering)
    rows = [totals]
    while not is_setting(numbering, rows[-1]):
        rows.append(round_by(ranges, carries, rows[-1]))
    return tuple(rows)


def last_handing(numbering, totals):
    """The number, counted from 1, of the last round in which something is handed, 0 if there is none."""
    rows = rounds_of(numbering, totals)
    ranges = ranges_of(numbering)
    handing = handing_dials(numbering)
    last = 0
    for k, row in enumerate(rows):
        if any([row[dial] >= ranges[dial] for dial in handing]):
            last = k + 1
    return last
