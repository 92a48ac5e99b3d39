"""Which kind a value is of. True and False are never integers."""


def is_integer(thing):
    """Whether thing is an int that is not a bool."""
    return isinstance(thing, int) and not isinstance(thing, bool)


def is_number(thing):
    """Whether thing is an integer of at least 0."""
    return is_integer(thing) and thing >= 0


def is_less(bound, thing):
    """Whether thing is a number less than bound: a place, a figure, a position."""
    return is_number(thing) and thing < bound


def is_wheel(thing):
    """Whether thing is an integer of at least 1."""
    return is_integer(thing) and thing >= 1


def is_range(thing):
    """Whether thing is an integer of at least 2."""
    return is_integer(thing) and thing >= 2


def is_pair(thing):
    """Whether thing is a tuple of two values."""
    return isinstance(thing, tuple) and len(thing) == 2


def is_pair_under(bound, thing):
    """Whether thing is a pair of numbers less than bound."""
    return is_pair(thing) and is_less(bound, thing[0]) and is_less(bound, thing[1])


def dial_wrong(wheel, thing):
    """The word for what keeps thing from being a dial of the wheel, None for a dial."""
    if not is_pair(thing):
        return "dial"
    if not is_range(thing[0]):
        return "range"
    if not is_less(wheel, thing[1]):
        return "weight"
    return None


def board_wrong(thing):
    """The pair (word, position) of what first keeps thing from being a board, None for a board."""
    if not is_pair(thing):
        return "shape", -1
    wheel, dials = thing
    if not is_wheel(wheel):
        return "wheel", 0
    if not isinstance(dials, tuple):
        return "dials", 1
    for k, dial in enumerate(dials):
        word = dial_wrong(wheel, dial)
        if word is not None:
            return word, k
    return None


def is_dial(wheel, thing):
    """Whether thing is a dial of the wheel."""
    return dial_wrong(wheel, thing) is None


def is_board(thing):
    """Whether thing is a board."""
    return board_wrong(thing) is None


def is_setting(board, thing):
    """Whether thing is a setting of the board."""
    dials = board[1]
    if not isinstance(thing, tuple) or len(thing) != len(dials):
        return False
    return all([is_less(dial[0], figure) for dial, figure in zip(dials, thing)])


def is_ranges(thing):
    """Whether thing is a tuple of integers of at least 2."""
    return isinstance(thing, tuple) and all([is_range(many) for many in thing])


def is_tuple_under(bound, thing):
    """Whether thing is a tuple of numbers less than bound."""
    return isinstance(thing, tuple) and all([is_less(bound, value) for value in thing])


def is_set(size, thing):
    """Whether thing is an ascending tuple of numbers less than size."""
    return is_tuple_under(size, thing) and list(thing) == sorted(set(thing))


def is_sequence(size, thing):
    """Whether thing is a tuple with each number less than size exactly once."""
    # The length is asked first: size may be far greater than any tuple is long.
    return is_tuple_under(size, thing) and len(thing) == size and len(set(thing)) == size
