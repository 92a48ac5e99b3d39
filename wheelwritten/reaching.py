"""Reach, spans, depth and heights of a numbering."""

from wheelwritten.carrying import hands_to
from wheelwritten.dividing import product_of
from wheelwritten.errors import InvalidPaper
from wheelwritten.kinds import is_less
from wheelwritten.laying import laying_of
from wheelwritten.usable import need


def reach_of(numbering):
    """The tuple of the sets of the dials below each dial."""
    reach = [()] * len(numbering[1])
    # Each dial stands in a laying behind all dials below it.
    for dial in laying_of(numbering)[0]:
        found = []
        for lower in hands_to(numbering, dial):
            found.append(lower)
            found.extend(reach[lower])
        reach[dial] = tuple(sorted(set(found)))
    return tuple(reach)


def below(numbering, dial):
    """The set of the dials below the dial."""
    need(is_less(len(numbering[1]), dial), "dial")
    return reach_of(numbering)[dial]


def above(numbering, dial):
    """The set of the dials above the dial."""
    need(is_less(len(numbering[1]), dial), "dial")
    return tuple([other for other, reached in enumerate(reach_of(numbering)) if dial in reached])


def spans_of(numbering):
    """The tuple of the spans of all dials."""
    dials = numbering[1]
    spans = []
    for dial, reached in enumerate(reach_of(numbering)):
        spans.append(dials[dial][0] * product_of([dials[lower][0] for lower in reached]))
    return tuple(spans)


def span_of(numbering, dial):
    """The span of the dial."""
    need(is_less(len(numbering[1]), dial), "dial")
    return spans_of(numbering)[dial]


def heights_of(numbering):
    """The tuple of the most steps of a row of reaching that ends at each dial."""
    heights = [0] * len(numbering[1])
    for dial in reversed(laying_of(numbering)[0]):
        for lower in hands_to(numbering, dial):
            heights[lower] = max(heights[lower], heights[dial] + 1)
    return tuple(heights)


def depth_of(numbering):
    """The most steps of a row of reaching, 0 without dials."""
    return max(heights_of(numbering), default=0)


def longest_row(numbering):
    """A tuple of depth + 1 dials each of which hands to the next one, () without dials."""
    heights = heights_of(numbering)
    if heights == ():
        return ()
    last = heights.index(max(heights))
    row = [last]
    for height in range(heights[last] - 1, -1, -1):
        ahead = [dial for dial in range(len(heights)) if heights[dial] == height and last in hands_to(numbering, dial)]
        last = ahead[0]
        row.append(last)
    return tuple(row[::-1])


def lets_row_down(numbering, thing):
    """The steps of a tuple of dials each of which hands to the next one. Else InvalidPaper."""
    if not isinstance(thing, tuple):
        raise InvalidPaper("shape", -1)
    for k, dial in enumerate(thing):
        if not is_less(len(numbering[1]), dial):
            raise InvalidPaper("dial", k)
        if k > 0 and dial not in hands_to(numbering, thing[k - 1]):
            raise InvalidPaper("hands", k)
    return max(len(thing) - 1, 0)
