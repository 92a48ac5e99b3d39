"""Events by their words: which reason they give, and the numbering behind them, from lists of all settings."""

import math

from tests.common import is_one
from tests.reference import carries, hands, order_depth, reach

WORDS = ("above", "below", "drop", "dual", "lift", "merge", "most", "part", "scale", "swap", "twin", "weigh")
NO_EVENTS = (
    0, 1, True, None, "", "twin", [], (), ("",), ("twins",), (None,), (("twin",),), ["twin"], ("twin", 0), ("twin", None), ("dual", ()), ("most",),
    ("most", True), ("most", -1), ("most", "-"), ("most", ()), ("most", 1, 1), ("most", None, None), ("below",), ("below", 2, 1), ("below", 2, 1, 0),
    ("below", 2, 1, None), ("below", 2, 1, [0, 1]), ("below", 2, 1, (0, None)), ("below", 2, 1, (True, 0)), ("below", 2, 1, (0, -1)), ("below", 2, None, ()),
    ("below", True, 1, ()), ("below", 2, 1, (0, 1), 5), ("above", 2), ("above", 2, 1, 0), ("above", 2, True), ("above", -2, 1), ("above", None, 1), ("drop",),
    ("drop", None), ("drop", False), ("drop", -1), ("drop", 0, 0), ("drop", (0,)), ("lift", "0"), ("lift",), ("part", 0), ("part", 0, 2, 3), ("part", 0, True),
    ("part", None, 2), ("merge", 0), ("merge", 0, -1), ("merge", False, True), ("scale",), ("scale", None), ("scale", -5), ("swap", 0), ("swap", 0, 1, 2),
    ("swap", True, 0), ("weigh", 0), ("weigh", 0, None), ("weigh", 0, -1), ("weigh", 0, True), (1, 2, 3), ("Drop", 0), ("drop ", 0), ("twin",) * 2)


def form_reason(board, event):
    """The first reason that the numbers of an event give."""
    wheel, dials = board
    size, word, values = len(dials), event[0], event[1:]
    named = values[:{"drop": 1, "lift": 1, "part": 1, "weigh": 1, "merge": 2, "swap": 2}.get(word, 0)]
    if any(dial >= size for dial in named) or len(set(named)) < len(named):
        return "dial"
    if word in ("below", "above") and values[0] < 2 or word == "weigh" and values[1] >= wheel:
        return "number"
    if word == "part" and not (1 < values[1] < dials[values[0]][0] and dials[values[0]][0] % values[1] == 0):
        return "number"
    if word == "below" and (values[1] >= values[0] or math.gcd(*values[:2]) > 1):
        return "unit"
    if word == "above" and (values[1] >= wheel * values[0] or math.gcd(*values) > 1):
        return "unit"
    if word == "scale" and (values[0] >= wheel or math.gcd(values[0], wheel) > 1):
        return "unit"
    if word == "below" and (len(values[2]) != size or any(lift >= values[0] for lift in values[2])):
        return "lifts"
    if word in ("below", "above", "part") and size == 8:
        return "full"
    return "large" if word in ("below", "above") and len(str(wheel * values[0])) > 60 else None


def reach_by_words(board):
    return reach(hands(board, carries(board)))


def depth_by_words(board):
    return order_depth(reach_by_words(board))


def reason_by_words(board, event):
    """The reason of an event on a small numbering, None if it can happen."""
    reason = form_reason(board, event)
    if reason is not None:
        return reason
    (wheel, dials), word, values = board, event[0], event[1:]
    if word == "drop" and any(carries(board)[values[0]]):
        return "hands"
    if word == "lift" and any(values[0] in row for row in reach_by_words(board)):
        return "above"
    if word == "merge" and dials[values[1]][1] != math.prod(dials[values[0]]) % wheel:
        return "apart"
    if word == "weigh" and not is_one((wheel, dials[:values[0]] + ((dials[values[0]][0], values[1]),) + dials[values[0] + 1:])):
        return "places"
    return None


def behind_event(board, event):
    """The numbering behind an event that can happen."""
    (wheel, dials), word, values = board, event[0], event[1:]
    rows = [list(dial) for dial in dials]
    if word in ("below", "above"):
        new = values[0] * wheel
        lifts = values[2] if word == "below" else ()
        rows = [[many, weight + lift * wheel] for (many, weight), lift in zip(rows, lifts)] if word == "below" else [[many, weight * values[0]] for many, weight in rows]
        rows.append([values[0], values[1] * wheel if word == "below" else values[1]])
        wheel = new
    elif word in ("drop", "lift"):
        many = rows.pop(values[0])[0]
        wheel //= many
        rows = [[old, weight % wheel if word == "drop" else weight // many] for old, weight in rows]
    elif word == "part":
        many, weight = rows[values[0]]
        rows[values[0]:values[0] + 1] = [[values[1], weight], [many // values[1], weight * values[1] % wheel]]
    elif word == "merge":
        rows[values[0]][0] *= rows[values[1]][0]
        del rows[values[1]]
    elif word == "scale":
        rows = [[many, weight * values[0] % wheel] for many, weight in rows]
    elif word == "swap":
        one, other = values
        rows[one], rows[other] = rows[other], rows[one]
    elif word == "weigh":
        rows[values[0]][1] = values[1]
    elif word in ("twin", "dual"):
        below = reach_by_words(board)
        size = len(rows)
        for dial in range(size):
            spanned = [k for k in range(size) if k == dial or (k in below[dial] if word == "twin" else dial in below[k])]
            rows[dial][1] = wheel // math.prod(dials[k][0] for k in spanned)
    return wheel, tuple(map(tuple, rows))


def some_event(board, below):
    """An event for the board, mostly one whose numbers fit, else one with wrong numbers."""
    wheel, dials = board
    size, wild = len(dials), below(6) == 0

    def less(bound):
        return below(max(bound, 1) + (2 if wild else 0))
    word = WORDS[below(12)]
    if word == "most":
        return word, [None, 0, 1, 2, 3, 8][below(6)]
    if word in ("twin", "dual"):
        return (word,)
    if word == "scale":
        return word, less(wheel)
    if word in ("drop", "lift"):
        return word, less(size)
    if word in ("merge", "swap"):
        return word, less(size), less(size)
    if word == "weigh":
        return word, less(size), less(wheel)
    if word == "part":
        dial = less(size)
        return word, dial, less(dials[dial][0] + 1 if dial < size else 4)
    times = [2, 3, 2, 4, 1 if wild else 5][below(5)]
    if word == "above":
        return word, times, less(wheel * times)
    return word, times, less(times), tuple(less(times) for _ in range(size + (wild and below(2))))
