"""Writing a place with the dials of a laying alone."""

from wheelwritten.dividing import inverse_of


def figures_laid(board, laying, place):
    """The setting of the place, a multiple of what the laying leaves, with 0 at all dials not taken.

    What was left ahead of a dial is what the weights of all dials ahead of it are made of,
    so modulo that only this dial's own figure counts: the figures are found from the last one on.
    """
    wheel, dials = board
    left = wheel
    for dial in laying:
        left = left // dials[dial][0]
    figures = [0] * len(dials)
    rest = place
    for dial in reversed(laying):
        many, weight = dials[dial]
        figure = rest // left * inverse_of(many, weight // left % many) % many
        figures[dial] = figure
        rest = (rest - figure * weight) % wheel
        left = left * many
    return tuple(figures)
