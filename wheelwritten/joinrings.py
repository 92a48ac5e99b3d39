"""Rings of dials each of which is joined to the next one."""

from wheelwritten.crossing import joined_rows
from wheelwritten.errors import InvalidPaper
from wheelwritten.kinds import is_less
from wheelwritten.searching import shortest_row


def ring_of(numbering, other):
    """A ring, None if there is none."""
    rows = joined_rows(numbering, other)
    for dial in range(len(rows)):
        row = shortest_row(rows, dial, dial)
        if row is not None:
            return row[:-1]
    return None


def is_ringed(numbering, other):
    """Whether there is a ring."""
    return ring_of(numbering, other) is not None


def lets_ring(numbering, other, thing):
    """How long the ring thing is. Else InvalidPaper."""
    rows = joined_rows(numbering, other)
    if not isinstance(thing, tuple) or len(thing) < 2:
        raise InvalidPaper("shape", -1)
    for k, dial in enumerate(thing):
        if not is_less(len(rows), dial) or dial in thing[:k]:
            raise InvalidPaper("dial", k)
    for k, dial in enumerate(thing):
        if thing[(k + 1) % len(thing)] not in rows[dial]:
            raise InvalidPaper("joined", k)
    return len(thing)
