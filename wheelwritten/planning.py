"""Right plans with the fewest twists."""

from wheelwritten.crossing import cross_table, joined_rows
from wheelwritten.errors import Ringed
from wheelwritten.joinrings import ring_of
from wheelwritten.kinds import is_sequence
from wheelwritten.plankinds import is_plan
from wheelwritten.usable import need


def join_steps(numbering, other):
    """The tuple of the most steps of a row of joins from each dial, else Ringed."""
    ring = ring_of(numbering, other)
    if ring is not None:
        raise Ringed(ring)
    rows = joined_rows(numbering, other)
    steps = [0] * len(rows)
    # Without a ring no row has more steps than there are dials: by then nothing grows any more.
    for _ in rows:
        steps = [max([steps[after] + 1 for after in row], default=0) for row in rows]
    return tuple(steps)


def layers_of(numbering, other):
    """The tuple of the sets of the dials from which the longest row of joins has 0, 1, 2 .. steps, else Ringed."""
    steps = join_steps(numbering, other)
    heights = range(max(steps, default=-1) + 1)
    return tuple([tuple([dial for dial in range(len(steps)) if steps[dial] == height]) for height in heights])


def is_along(numbering, other, sequence):
    """Whether sequence is one of all dials, with j ahead of i wherever i is joined to j."""
    rows = joined_rows(numbering, other)
    if not is_sequence(len(rows), sequence):
        return False
    return all([after in sequence[:k] for k, dial in enumerate(sequence) for after in rows[dial]])


def _spans_of_joins(rows, sequence):
    """The list of the triples (last gap, first gap, join) of all joins, ascending; gap k is behind sum k."""
    spans = []
    for dial, row in enumerate(rows):
        for after in row:
            spans.append((sequence.index(dial) - 1, sequence.index(after), (dial, after)))
    return sorted(spans)


def apart_in(rows, sequence):
    """The list of the pairs (gap, join) of the most joins no two of which cover a common gap, their gaps ascending.

    The gap is the last one that the join covers. Each join covers one of the gaps: it was left out because it covers
    the gap of one that ends no later than it.
    """
    found = []
    for last, first, join in _spans_of_joins(rows, sequence):
        if found == [] or found[-1][0] < first:
            found.append((last, join))
    return found


def _terms_by_gap(numbering, other, sequence):
    """A dict with the list of the terms of the twist in each gap that has one."""
    rows = joined_rows(numbering, other)
    table = cross_table(numbering, other)
    terms = {gap: [] for gap, _ in apart_in(rows, sequence)}
    for last, first, (dial, after) in _spans_of_joins(rows, sequence):
        gap = min([gap for gap in terms if first <= gap <= last])
        terms[gap].append((min(dial, after), max(dial, after), table[dial][after]))
    return terms


def _plan_by(numbering, other, sequence):
    """A right plan with its sums in this sequence and the fewest twists of these; each join has one term."""
    table = cross_table(numbering, other)
    terms = _terms_by_gap(numbering, other, sequence)
    plan = []
    for k, dial in enumerate(sequence):
        plan.append(("sum", dial, table[dial][dial]))
        if k in terms:
            plan.append(("twist", tuple(sorted(terms[k]))))
    return tuple(plan)


def plan_of(numbering, other):
    """A right plan with the fewest twists and, of these, the fewest terms, else Ringed."""
    # All joins lead to lower layers, so one twist between each two neighbouring layers would do.
    sequence = [dial for layer in layers_of(numbering, other) for dial in layer]
    return _plan_by(numbering, other, tuple(sequence))


def plan_along(numbering, other, sequence):
    """A right plan with its sums in this sequence and the fewest twists of these."""
    need(is_along(numbering, other, sequence), "sequence")
    return _plan_by(numbering, other, sequence)


def plan_turned(numbering, plan):
    """The passes of the plan in reverse sequence."""
    need(is_plan(numbering, plan), "plan")
    return plan[::-1]
