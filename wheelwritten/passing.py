"""Stores behind single passes."""

from wheelwritten.boards import settings_of
from wheelwritten.kinds import is_less
from wheelwritten.plankinds import is_pass
from wheelwritten.roots import need_root
from wheelwritten.transforms import are_values, powers_by
from wheelwritten.usable import need


def _summed(numbering, prime, powers, store, dial, factor):
    """The store behind a sum; powers are those of the root by all places."""
    wheel, dials = numbering
    rows = list(settings_of(numbering))
    entries = {setting: store[k] for k, setting in enumerate(rows)}
    new = []
    for setting in rows:
        total = 0
        for figure in range(dials[dial][0]):
            entry = entries[setting[:dial] + (figure,) + setting[dial + 1:]]
            total += entry * powers[factor * figure * setting[dial] % wheel]
        new.append(total % prime)
    return tuple(new)


def _twisted(numbering, prime, powers, store, terms):
    """The store behind a twist; powers are those of the root by all places."""
    wheel = numbering[0]
    new = []
    for k, setting in enumerate(settings_of(numbering)):
        exponent = sum([factor * setting[one] * setting[two] for one, two, factor in terms])
        new.append(store[k] * powers[exponent % wheel] % prime)
    return tuple(new)


def pass_made(numbering, prime, root, store, single):
    """The store behind the pass."""
    powers = powers_by(prime, numbering[0], root)
    if single[0] == "sum":
        _, dial, factor = single
        return _summed(numbering, prime, powers, store, dial, factor)
    return _twisted(numbering, prime, powers, store, single[1])


def _need_store(numbering, prime, root, store):
    """NotUsable unless prime, root and store are as stated."""
    need_root(prime, numbering[0], root)
    need(are_values(prime, numbering[0], store), "store")


def sum_passed(numbering, prime, root, store, dial, factor):
    """The store behind the pass ("sum", dial, factor)."""
    _need_store(numbering, prime, root, store)
    need(is_less(len(numbering[1]), dial), "dial")
    single = ("sum", dial, factor)
    need(is_pass(numbering, single), "factor")
    return pass_made(numbering, prime, root, store, single)


def twist_passed(numbering, prime, root, store, terms):
    """The store behind the pass ("twist", terms)."""
    _need_store(numbering, prime, root, store)
    single = ("twist", terms)
    need(is_pass(numbering, single), "terms")
    return pass_made(numbering, prime, root, store, single)


def passed(numbering, prime, root, store, single):
    """The store behind the pass single."""
    _need_store(numbering, prime, root, store)
    need(is_pass(numbering, single), "single")
    return pass_made(numbering, prime, root, store, single)
