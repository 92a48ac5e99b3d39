"""Orders in which just the tied dials are comparable."""

from wheelwritten.errors import InvalidPaper, NoOrder
from wheelwritten.forcing import chain_of, class_in
from wheelwritten.orders import lets_order, steps_of
from wheelwritten.straights import straight_board
from wheelwritten.ties import tied_rows


def _rows_without(rows, pairs):
    """The rows of tied dials without these pairs, in any sequence of the two."""
    kept = []
    for one, row in enumerate(rows):
        kept.append(tuple([other for other in row if (one, other) not in pairs and (other, one) not in pairs]))
    return tuple(kept)


def turned_ties(ranges):
    """An order whose pairs of comparable dials are just the tied ones, else NoOrder."""
    chain = chain_of(ranges)
    if chain is not None:
        raise NoOrder(chain)
    rows = tied_rows(ranges)
    lower = [[] for _ in rows]
    for dial in range(len(rows)):
        # As Golumbic (1977) shows, what is turned with one pair is no obstacle to the ties left, if these alone
        # then tell what is forced.
        while rows[dial] != ():
            pairs = class_in(rows, (dial, rows[dial][0]))
            for one, other in pairs:
                lower[one].append(other)
            rows = _rows_without(rows, pairs)
    return tuple([tuple(sorted(row)) for row in lower])


def tied_board(ranges):
    """A numbering with these ranges whose comparable dials are tied, else NoOrder."""
    return straight_board(ranges, turned_ties(ranges))


def lets_turned(ranges, thing):
    """The depth of the order thing, whose comparable dials are just the tied ones. Else InvalidPaper."""
    size = len(ranges)
    lets_order(size, thing)
    rows = tied_rows(ranges)
    for one in range(size):
        for other in range(one + 1, size):
            comparable = other in thing[one] or one in thing[other]
            if comparable != (other in rows[one]):
                raise InvalidPaper("tie", (one, other))
    return steps_of(thing)
