"""The checker of nets."""

from wheelwritten.carrying import carries_of
from wheelwritten.errors import InvalidPaper
from wheelwritten.kinds import is_less, is_number, is_pair


def wires_to(carries, dial):
    """The set of the pairs (i, figure at the dial of the carry of i) for all i that hand to the dial."""
    return tuple([(upper, carry[dial]) for upper, carry in enumerate(carries) if carry[dial] > 0])


def _are_wires(wires, thing):
    """Whether thing is just these wires; True is not 1 there."""
    if not isinstance(thing, tuple):
        return False
    return all([is_pair(wire) and is_number(wire[0]) and is_number(wire[1]) for wire in thing]) and thing == wires


def _check_gate(carries, ahead, gate, at):
    """InvalidPaper unless gate is one of a dial without a gate; ahead is a pair of lists of dials.

    They are those with a gate in the layers ahead, and those with one ahead in this layer.
    """
    if not is_pair(gate):
        raise InvalidPaper("gate", at)
    dial, wires = gate
    if not is_less(len(carries), dial) or dial in ahead[0] or dial in ahead[1]:
        raise InvalidPaper("dial", at)
    if not _are_wires(wires_to(carries, dial), wires):
        raise InvalidPaper("wires", at)
    if not all([upper in ahead[0] for upper, _ in wires]):
        raise InvalidPaper("early", at)


def lets_net(numbering, thing):
    """How many layers the net thing has. Else InvalidPaper."""
    if not isinstance(thing, tuple) or not all([isinstance(layer, tuple) and layer != () for layer in thing]):
        raise InvalidPaper("shape", -1)
    carries = carries_of(numbering)
    done = []
    for k, layer in enumerate(thing):
        new = []
        for g, gate in enumerate(layer):
            _check_gate(carries, (done, new), gate, (k, g))
            new.append(gate[0])
        done = done + new
    for dial in range(len(carries)):
        if dial not in done:
            raise InvalidPaper("lacking", dial)
    return len(thing)


def is_net(numbering, thing):
    """Whether thing is a net that lets_net accepts."""
    try:
        lets_net(numbering, thing)
    except InvalidPaper:
        return False
    return True
