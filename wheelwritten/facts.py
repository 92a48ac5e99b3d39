"""What can be said of a numbering in short."""

from wheelwritten.carrying import handing_dials
from wheelwritten.closings import closed_sets
from wheelwritten.reaching import depth_of
from wheelwritten.straights import is_straight


def facts_of(numbering):
    """The tuple of wheel, size, depth, number of closed sets, whether straight, and the set of the handing dials."""
    wheel, dials = numbering
    closed = len(closed_sets(numbering))
    return wheel, len(dials), depth_of(numbering), closed, is_straight(numbering), handing_dials(numbering)


def fact_lines(numbering):
    """The same in six lines."""
    wheel, size, depth, closed, straight, handing = facts_of(numbering)
    answer = "yes" if straight else "no"
    dials = " ".join([str(dial) for dial in handing])
    if handing == ():
        dials = "-"
    return (f"wheel {wheel}", f"size {size}", f"depth {depth}", f"closed {closed}", f"straight {answer}",
            f"handing {dials}")
