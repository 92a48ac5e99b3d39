"""Cross products of two numberings, and which dial is joined to which."""

from wheelwritten.boards import ranges_of, weights_of
from wheelwritten.errors import InvalidPaper
from wheelwritten.kinds import is_board, is_integer, is_less
from wheelwritten.laying import is_numbering
from wheelwritten.usable import need


def is_alike(numbering, thing):
    """Whether thing is a numbering with the same wheel and ranges."""
    if not is_board(thing) or thing[0] != numbering[0] or ranges_of(thing) != ranges_of(numbering):
        return False
    return is_numbering(thing)


def cross_table(numbering, other):
    """The tuple with, for each dial, the tuple of its cross products with all dials of the other numbering."""
    need(is_alike(numbering, other), "other")
    wheel = numbering[0]
    return tuple([tuple([one * two % wheel for two in weights_of(other)]) for one in weights_of(numbering)])


def joined_rows(numbering, other):
    """The tuple with, for each dial, the set of the dials to which it is joined."""
    rows = []
    for one, products in enumerate(cross_table(numbering, other)):
        rows.append(tuple([two for two, product in enumerate(products) if product != 0 and two != one]))
    return tuple(rows)


def joins_of(numbering, other):
    """The set of all pairs (i, j) with i joined to j."""
    return tuple([(one, two) for one, row in enumerate(joined_rows(numbering, other)) for two in row])


def joined_to(numbering, other, dial):
    """The set of the dials to which the dial is joined."""
    rows = joined_rows(numbering, other)
    need(is_less(len(rows), dial), "dial")
    return rows[dial]


def _is_table(size, thing):
    """Whether thing is a tuple of as many tuples as size, each of as many elements."""
    if not isinstance(thing, tuple) or len(thing) != size:
        return False
    return all([isinstance(row, tuple) and len(row) == size for row in thing])


def lets_table(numbering, other, thing):
    """How many joins there are, if thing is the table of cross products. Else InvalidPaper."""
    table = cross_table(numbering, other)
    if not _is_table(len(table), thing):
        raise InvalidPaper("shape", -1)
    for one, products in enumerate(table):
        for two, product in enumerate(products):
            if not is_integer(thing[one][two]) or thing[one][two] != product:
                raise InvalidPaper("product", (one, two))
    return len(joins_of(numbering, other))
