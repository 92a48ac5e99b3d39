"""How few twists do, and what shows that fewer do not."""

from wheelwritten.crossing import joined_rows
from wheelwritten.errors import InvalidPaper
from wheelwritten.joinrings import is_ringed
from wheelwritten.kinds import is_less
from wheelwritten.planning import apart_in, is_along, join_steps
from wheelwritten.usable import need


def fewest_twists(numbering, other):
    """The fewest twists of a right plan, None if there is a ring."""
    if is_ringed(numbering, other):
        return None
    return max(join_steps(numbering, other), default=0)


def twist_row(numbering, other):
    """A row of joins with the most steps, () without dials, else Ringed."""
    steps = join_steps(numbering, other)
    if steps == ():
        return ()
    rows = joined_rows(numbering, other)
    row = [steps.index(max(steps))]
    while steps[row[-1]] > 0:
        last = row[-1]
        row.append([after for after in rows[last] if steps[after] == steps[last] - 1][0])
    return tuple(row)


def fewest_along(numbering, other, sequence):
    """The fewest twists of a right plan with its sums in this sequence."""
    need(is_along(numbering, other, sequence), "sequence")
    return len(apart_in(joined_rows(numbering, other), sequence))


def apart_joins(numbering, other, sequence):
    """A set of as many joins as fewest_along tells, no two of which cover a common gap."""
    need(is_along(numbering, other, sequence), "sequence")
    return tuple(sorted([join for _, join in apart_in(joined_rows(numbering, other), sequence)]))


def lets_row(numbering, other, thing):
    """The steps of the row of joins thing. Else InvalidPaper."""
    rows = joined_rows(numbering, other)
    if not isinstance(thing, tuple):
        raise InvalidPaper("shape", -1)
    for k, dial in enumerate(thing):
        if not is_less(len(rows), dial):
            raise InvalidPaper("dial", k)
        if k > 0 and dial not in rows[thing[k - 1]]:
            raise InvalidPaper("joined", k)
    return max(len(thing) - 1, 0)
