"""Which pairs of tied dials, the first above the second, force which."""

from wheelwritten.errors import InvalidPaper
from wheelwritten.kinds import is_pair_under
from wheelwritten.searching import come_to, shortest_row
from wheelwritten.ties import tied_rows
from wheelwritten.usable import need


def forced_in(rows, pair):
    """The set of the pairs that the pair forces; rows has, for each dial, the dials tied to it."""
    one, other = pair
    found = [(one, third) for third in rows[one] if third != other and third not in rows[other]]
    found.extend([(third, other) for third in rows[other] if third != one and third not in rows[one]])
    return tuple(sorted(found))


def forced_table(rows):
    """A dict with the set of the pairs that it forces for each pair; rows as in forced_in."""
    pairs = [(one, other) for one, row in enumerate(rows) for other in row]
    return {pair: forced_in(rows, pair) for pair in pairs}


def class_in(rows, pair):
    """The smallest set that has the pair and, with each pair, all that this one forces; rows as in forced_in."""
    return tuple(sorted(set((pair,) + come_to(forced_table(rows), pair))))


def _is_tied_pair(rows, thing):
    """Whether thing is a pair of tied dials; rows as in forced_in."""
    return is_pair_under(len(rows), thing) and thing[1] in rows[thing[0]]


def forced_by(ranges, pair):
    """The set of the pairs that the pair of tied dials forces."""
    rows = tied_rows(ranges)
    need(_is_tied_pair(rows, pair), "pair")
    return forced_in(rows, pair)


def forced_class(ranges, pair):
    """The smallest set that has the pair and, with each pair, all that this one forces."""
    rows = tied_rows(ranges)
    need(_is_tied_pair(rows, pair), "pair")
    return class_in(rows, pair)


def chain_of(ranges):
    """A chain, None if there is none."""
    table = forced_table(tied_rows(ranges))
    for one, other in table:
        row = shortest_row(table, (one, other), (other, one))
        if row is not None:
            return row
    return None


def lets_chain(ranges, thing):
    """How many pairs the chain thing has: the ties cannot be turned. Else InvalidPaper."""
    if not isinstance(thing, tuple) or len(thing) < 2:
        raise InvalidPaper("shape", -1)
    rows = tied_rows(ranges)
    for k, pair in enumerate(thing):
        if not _is_tied_pair(rows, pair):
            raise InvalidPaper("pair", k)
        if k > 0 and pair not in forced_in(rows, thing[k - 1]):
            raise InvalidPaper("forced", k)
    one, other = thing[0]
    if thing[-1] != (other, one):
        raise InvalidPaper("about", -1)
    return len(thing)
