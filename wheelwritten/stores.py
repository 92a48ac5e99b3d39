"""Stores: tuples with an entry for each setting."""

from wheelwritten.listing import places_of
from wheelwritten.usable import need


def _is_whole(numbering, thing):
    """Whether thing is a tuple of as many values as there are places."""
    return isinstance(thing, tuple) and len(thing) == numbering[0]


def store_of(numbering, values):
    """The store that has at each setting the value at its place."""
    need(_is_whole(numbering, values), "values")
    return tuple([values[place] for place in places_of(numbering)])


def values_of(numbering, store):
    """The values that the store has at the settings of the places."""
    need(_is_whole(numbering, store), "store")
    entries = {place: store[k] for k, place in enumerate(places_of(numbering))}
    return tuple([entries[place] for place in range(numbering[0])])
