"""What the tests share: strict comparison, wrong values, and boards judged by lists of all settings."""

import itertools
import math
import unittest

CLOCK = (12, ((2, 6), (3, 4), (2, 1)))
ODD = (12, ((2, 6), (3, 10), (2, 1)))
DIGITS = (1000, ((10, 1), (10, 10), (10, 100)))
RESTS = (6, ((2, 3), (3, 2)))
SIX = (6, ((2, 1), (3, 1)))
BOTH = (4, ((2, 1), (2, 1)))
NONE = (1, ())

NO_INTEGERS = (True, False, None, "", "1", (), (1,), [], [1], ((1,),))
NO_NUMBERS = NO_INTEGERS + (-1, -(10 ** 60))
NO_TUPLES = (0, 1, True, None, "", "ab", [], [0], [0, 1])


class Case(unittest.TestCase):
    """A test case that tells True from 1, and lists from tuples."""

    def same(self, got, wanted):
        self.assertEqual(got, wanted)
        self.assertEqual(shape(got), shape(wanted))

    def raises(self, error, fields, function, *values, **named):
        """function(..) raises exactly this error, with exactly these fields."""
        with self.assertRaises(error) as caught:
            function(*values, **named)
        self.assertIs(type(caught.exception), error)
        self.same({name: getattr(caught.exception, name) for name in fields}, fields)

    def refuses(self, name, function, *values, **named):
        from wheelwritten.errors import NotUsable
        self.raises(NotUsable, {"word": name, "at": -1}, function, *values, **named)

    def rejects(self, word, at, function, *values, **named):
        from wheelwritten.errors import InvalidPaper
        self.raises(InvalidPaper, {"word": word, "at": at}, function, *values, **named)


def shape(value):
    """The value with the kind of each part written out."""
    if isinstance(value, (tuple, list)):
        return (type(value), [shape(part) for part in value])
    if isinstance(value, dict):
        return (dict, [(shape(key), shape(part)) for key, part in value.items()])
    return (type(value), value)


def settings(board):
    return list(itertools.product(*[range(many) for many, _ in board[1]]))


def place(board, setting):
    return sum(figure * weight for figure, (_, weight) in zip(setting, board[1])) % board[0]


def table(board):
    """The list of the settings of each place."""
    found = {number: [] for number in range(board[0])}
    for setting in settings(board):
        found[place(board, setting)].append(setting)
    return found


def is_one(board):
    """Whether the board is a numbering, by the list of all settings."""
    return all(len(found) == 1 for found in table(board).values())


def boards_with(wheel, ranges):
    """All boards with this wheel and these ranges."""
    for weights in itertools.product(range(wheel), repeat=len(ranges)):
        yield wheel, tuple(zip(ranges, weights))


SMALL_RANGES = ((), (2,), (3,), (4,), (6,), (2, 2), (2, 3), (3, 2), (4, 2), (2, 4), (3, 3), (2, 5), (4, 3), (2, 6), (2, 2, 2), (2, 3, 2), (3, 2, 2))


def small_boards():
    """Boards on small wheels whose product of ranges is the wheel, or is not."""
    for ranges in SMALL_RANGES:
        yield from boards_with(math.prod(ranges), ranges)
    for wheel in (1, 2, 3, 4, 6, 8, 12):
        for ranges in ((), (2,), (3,), (4,), (2, 2), (2, 3), (3, 2), (2, 4), (6, 2)):
            if wheel != math.prod(ranges):
                yield from boards_with(wheel, ranges)
    yield from boards_with(4, (2, 2, 2))
    yield from boards_with(6, (2, 3, 2))


def small_numberings():
    """All numberings with the small ranges, and some of greater wheels."""
    for ranges in SMALL_RANGES:
        for board in boards_with(math.prod(ranges), ranges):
            if is_one(board):
                yield board
    for seed in range(12):
        yield grown((2, 3, 2, 3), seed)
        yield grown((2, 2, 2, 2), seed)
        yield grown((4, 2, 6, 2), seed)
        yield grown((2, 2, 3, 2, 2), seed)


def some_numberings(step=7):
    """A part of the small numberings, evenly taken."""
    return [board for k, board in enumerate(small_numberings()) if k % step == 0]


def mixer(seed):
    """A function that gives numbers below a bound, always the same ones for one seed."""
    state = [seed * 7919 + 12345]

    def below(bound):
        number = 0
        for _ in range(7):
            state[0] = (state[0] * 6364136223846793005 + 1442695040888963407) % 2 ** 64
            number = number * 2 ** 32 + state[0] // 2 ** 32
        return number % bound
    return below


def grown(ranges, seed):
    """A numbering with these ranges: each next dial is put below the others, then the dials are mixed."""
    below = mixer(seed)
    wheel, dials = 1, []
    for many in ranges:
        unit = below(many)
        while math.gcd(unit, many) > 1:
            unit = below(many)
        dials = [(old, weight + below(many) * wheel) for old, weight in dials] + [(many, unit * wheel)]
        wheel *= many
    for k in range(len(dials) - 1, 0, -1):
        other = below(k + 1)
        dials[k], dials[other] = dials[other], dials[k]
    return wheel, tuple(dials)


GREAT_RANGES = (
    (10 ** 7, 12, 10 ** 9 + 7, 2 ** 20, 6, 3 ** 12, 10 ** 8, 10),
    (2, 2, 2, 2, 2, 2, 2, 2),
    (10 ** 30, 10 ** 29),
    (10 ** 59,),
    (6, 10, 15, 10 ** 20, 35, 77, 2, 10 ** 25),
    (2 ** 40, 3 ** 30, 2 ** 40, 3 ** 30, 2, 3, 2, 3),
)


def great_numberings():
    """Numberings with eight dials and with wheels of up to sixty digits."""
    return [grown(ranges, seed) for ranges in GREAT_RANGES for seed in range(4)]


def some_places(board, count, seed=1):
    below = mixer(seed)
    return [below(board[0]) for _ in range(count)]


def some_settings(board, count, seed=1):
    below = mixer(seed)
    return [tuple(below(many) for many, _ in board[1]) for _ in range(count)]
