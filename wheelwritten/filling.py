"""Filling up started boards by dials for the levels that are lacking."""

from wheelwritten.errors import NoFilling
from wheelwritten.faults import fault_of
from wheelwritten.levels import all_held, free_levels, full_weight, wheel_levels


def with_free_levels(board):
    """The board with a dial for each free level behind its own dials, numbering or not."""
    wheel, dials = board
    new = [(prime, full_weight(wheel, prime, level)) for prime, level in free_levels(board)]
    return wheel, dials + tuple(new)


def _shared_level(held):
    """The tuple ("shared", d, e, p, l) for two dials that share a level, None if none do."""
    for k in range(1, len(held)):
        level, other = held[k]
        level_ahead, one = held[k - 1]
        if level == level_ahead:
            return "shared", one, other, level[0], level[1]
    return None


def level_fault(board):
    """A fault ("zero", ..), ("level", ..) or ("shared", ..) of lets_nofilling, None if there is none."""
    wheel, dials = board
    for dial, (_, weight) in enumerate(dials):
        if weight == 0:
            return "zero", dial
    held = all_held(board)
    own = wheel_levels(wheel)
    for level, dial in held:
        if level not in own:
            return "level", dial, level[0], level[1]
    return _shared_level(held)


def nofilling_of(board):
    """A value that lets_nofilling accepts, None if the board can be filled up."""
    wrong = level_fault(board)
    if wrong is not None:
        return wrong
    fault = fault_of(with_free_levels(board))
    if fault is not None:
        return "full", fault
    return None


def can_fill(board):
    """Whether the board can be filled up."""
    return nofilling_of(board) is None


def filled(board):
    """The board filled up by a dial for each free level, else NoFilling."""
    fault = nofilling_of(board)
    if fault is not None:
        raise NoFilling(fault)
    return with_free_levels(board)
