"""How often faces that are thrown add up to each place."""

from wheelwritten.kinds import is_number, is_tuple_under
from wheelwritten.usable import need


def throws_of(wheel, faces, times):
    """The tuple with, for each place, in how many ways so many throws of the faces add up to it."""
    need(is_tuple_under(wheel, faces) and faces != (), "faces")
    need(is_number(times), "times")
    ways = [1] + [0] * (wheel - 1)
    for _ in range(times):
        ways = [sum([ways[(place - face) % wheel] for face in faces]) for place in range(wheel)]
    return tuple(ways)
