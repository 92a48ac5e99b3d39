"""Searches that several modules share."""

from itertools import combinations


def subsets_of(size):
    """The list of all sets of numbers less than size, smaller ones ahead of greater ones."""
    return [part for many in range(size + 1) for part in combinations(range(size), many)]


def come_to(steps, start):
    """The set of all that is come to from start by one step or more; steps has the next ones of each."""
    seen = set()
    todo = [start]
    while todo != []:
        now = todo.pop()
        for after in steps[now]:
            if after not in seen:
                seen.add(after)
                todo.append(after)
    return tuple(sorted(seen))


def shortest_row(steps, start, goal):
    """A shortest tuple that leads from start, by one step or more, to goal; None if there is none."""
    seen = {start}
    rows = [(start,)]
    while rows != []:
        longer = []
        for row in rows:
            for after in steps[row[-1]]:
                if after == goal:
                    return row + (after,)
                if after not in seen:
                    seen.add(after)
                    longer.append(row + (after,))
        rows = longer
    return None
