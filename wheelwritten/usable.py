"""The one way in which parameters are refused."""

from wheelwritten.errors import NotUsable


def need(holds, name):
    """Raise NotUsable for the parameter with this name, unless holds."""
    if not holds:
        raise NotUsable(name, -1)
