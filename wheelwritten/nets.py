"""Nets of gates that add settings layer by layer."""

from wheelwritten.boards import ranges_of
from wheelwritten.carrying import carries_of
from wheelwritten.kinds import is_less, is_setting
from wheelwritten.netchecker import is_net, wires_to
from wheelwritten.reaching import heights_of
from wheelwritten.usable import need


def net_of(numbering):
    """The net whose layer k has the gates of the dials with height k, ascending."""
    carries = carries_of(numbering)
    heights = heights_of(numbering)
    layers = []
    for height in range(max(heights, default=-1) + 1):
        dials = [dial for dial in range(len(heights)) if heights[dial] == height]
        layers.append(tuple([(dial, wires_to(carries, dial)) for dial in dials]))
    return tuple(layers)


def _need_sum(numbering, net, one, other):
    """NotUsable unless net is one that lets_net accepts, and one and other are settings."""
    need(is_net(numbering, net), "net")
    need(is_setting(numbering, one), "one")
    need(is_setting(numbering, other), "other")


def _totals_of(ranges, net, one, other):
    """The tuple of the totals of the gates of all dials."""
    totals = [0] * len(ranges)
    for layer in net:
        for dial, wires in layer:
            handed = sum([figure * (totals[upper] // ranges[upper]) for upper, figure in wires])
            totals[dial] = one[dial] + other[dial] + handed
    return tuple(totals)


def run_net(numbering, net, one, other):
    """The pair of the tuple of the rests and that of the quotients, for all dials."""
    _need_sum(numbering, net, one, other)
    ranges = ranges_of(numbering)
    totals = _totals_of(ranges, net, one, other)
    rests = tuple([total % many for total, many in zip(totals, ranges)])
    return rests, tuple([total // many for total, many in zip(totals, ranges)])


def gate_total(numbering, net, one, other, dial):
    """The total at the dial."""
    _need_sum(numbering, net, one, other)
    need(is_less(len(numbering[1]), dial), "dial")
    return _totals_of(ranges_of(numbering), net, one, other)[dial]
