"""Trees of cases that show that no colouring has at most so many colours.

In a case two groups of dials, not tied, are made one, or tied. names has, for each dial, its group's name, the least
dial of it; links has the pairs of dials that are tied, and the names of groups that were tied on the way.
"""

from itertools import combinations

from wheelwritten.colouring import fewest_colours
from wheelwritten.errors import InvalidPaper
from wheelwritten.faultchecker import has_form
from wheelwritten.kinds import is_less, is_number, is_set
from wheelwritten.ties import ties_of
from wheelwritten.usable import need

LENGTHS = {"clique": 2, "case": 5}


def _are_linked(names, links, one, other):
    """Whether the groups with these names are tied."""
    return any([sorted((names[first], names[second])) == [one, other] for first, second in links])


def _first_unlinked(names, links, groups):
    """The first pair of groups, ascending, that are not tied; None if all are."""
    for k, one in enumerate(groups):
        for other in groups[k + 1:]:
            if not _are_linked(names, links, one, other):
                return one, other
    return None


def _made_one(names, one, other):
    """The names when the group other has become part of the group one."""
    return tuple([one if name == other else name for name in names])


def _is_name(names, thing):
    """Whether thing is the name of a group."""
    return is_less(len(names), thing) and names[thing] == thing


def _check_clique(names, links, many, groups, way):
    """InvalidPaper unless groups are names of more than many groups, each two of them tied."""
    if not is_set(len(names), groups) or not all([_is_name(names, group) for group in groups]):
        raise InvalidPaper("names", way)
    if len(groups) <= many:
        raise InvalidPaper("few", way)
    if _first_unlinked(names, links, groups) is not None:
        raise InvalidPaper("untied", way)


def _cliques_in(names, links, many, thing, way):
    """How many cliques the tree thing has, else InvalidPaper; way leads to it."""
    if not has_form(thing, dict(LENGTHS)):
        raise InvalidPaper("shape", way)
    if thing[0] == "clique":
        _check_clique(names, links, many, thing[1], way)
        return 1
    _, one, other, same, unlike = thing
    if not _is_name(names, one) or not _is_name(names, other) or one >= other:
        raise InvalidPaper("names", way)
    if _are_linked(names, links, one, other):
        raise InvalidPaper("tied", way)
    cliques = _cliques_in(_made_one(names, one, other), links, many, same, way + (0,))
    return cliques + _cliques_in(names, links + ((one, other),), many, unlike, way + (1,))


def lets_tree(ranges, many, thing):
    """How many cliques the tree thing has: no colouring has at most many colours. Else InvalidPaper."""
    need(is_number(many), "many")
    return _cliques_in(tuple(range(len(ranges))), ties_of(ranges), many, thing, ())


def _clique_of(names, links, many):
    """So many groups, each two of them tied; None if there are none."""
    own = sorted(set(names))
    for groups in combinations(own, many):
        if _first_unlinked(names, links, groups) is None:
            return groups
    return None


def _tree_from(names, links, many):
    """A tree with cliques of so many groups; colourings with fewer colours there must be none."""
    groups = _clique_of(names, links, many)
    if groups is not None:
        return "clique", groups
    one, other = _first_unlinked(names, links, sorted(set(names)))
    same = _tree_from(_made_one(names, one, other), links, many)
    return "case", one, other, same, _tree_from(names, links + ((one, other),), many)


def colour_tree(ranges):
    """A tree that lets_tree accepts for one less than the fewest colours."""
    need(ranges != (), "ranges")
    return _tree_from(tuple(range(len(ranges))), ties_of(ranges), fewest_colours(ranges))
