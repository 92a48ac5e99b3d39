"""Points [29] to [31]: levels, filling, fillchecker."""

import itertools
import math

from tests.common import (BOTH, CLOCK, DIGITS, NO_INTEGERS, NO_NUMBERS, NO_TUPLES, NONE, ODD, RESTS, SIX, Case, boards_with,
                          grown, is_one, small_boards, small_numberings)
from tests.reference import can_be_filled, exponent, levels_of_dial, wheel_levels as levels_by_words
from wheelwritten.errors import InvalidPaper, NoFilling
from wheelwritten.faultchecker import lets_fault
from wheelwritten.fillchecker import lets_filling, lets_nofilling
from wheelwritten.filling import can_fill, filled
from wheelwritten.levels import by_levels, free_levels, full_weight, levels_of, wheel_levels

HALF = (12, ((2, 6),))
MILLION = (10 ** 6, tuple((10, 10 ** k) for k in range(6)))


def started_boards():
    """Small boards with few dials, also such whose ranges do not divide the wheel."""
    for wheel in (1, 2, 3, 4, 6, 8, 9, 12):
        for ranges in ((), (2,), (3,), (4,), (5,), (6,), (2, 2), (2, 3), (4, 2)):
            if wheel <= 6 or len(ranges) < 2:
                yield from boards_with(wheel, ranges)
    yield from itertools.islice(boards_with(8, (2, 2)), 0, None, 3)
    yield from itertools.islice(boards_with(12, (2, 3)), 0, None, 7)
    yield from itertools.islice(boards_with(12, (2, 2)), 0, None, 7)


class Levels(Case):

    def test_examples(self):
        self.same([levels_of(CLOCK, 0), free_levels((12, ((2, 6),))), full_weight(12, 2, 1)],
                  [((2, 2),), ((2, 1), (3, 1)), 3])
        self.same(by_levels(CLOCK), (((2, 1), 2), ((2, 2), 0), ((3, 1), 1)))

    def test_by_name(self):
        self.same([levels_of(board=HALF, dial=0), wheel_levels(wheel=4), free_levels(board=HALF),
                   full_weight(wheel=12, prime=3, level=1), by_levels(numbering=NONE)],
                  [((2, 2),), ((2, 1), (2, 2)), ((2, 1), (3, 1)), 4, ()])

    def test_levels_of_dials(self):
        for wheel in (1, 2, 7, 12, 36, 64):
            for many in (2, 3, 4, 6, 8, 12, 30, 72):
                for weight in range(wheel):
                    wanted = None if weight == 0 else tuple(levels_of_dial(many, weight))
                    self.same(levels_of((wheel, ((5, 0), (many, weight))), 1), wanted)
        self.same(levels_of((10 ** 6, ((10 ** 6, 5 ** 6),)), 0),
                  tuple((2, k) for k in range(1, 7)) + tuple((5, k) for k in range(7, 13)))
        self.same(levels_of((10 ** 6, ((999983, 1),)), 0), ((999983, 1),))

    def test_levels_of_wheels(self):
        for wheel in range(1, 130):
            self.same(wheel_levels(wheel), tuple(levels_by_words(wheel)))
        self.same(wheel_levels(10 ** 6), tuple((2, k) for k in range(1, 7)) + tuple((5, k) for k in range(1, 7)))

    def test_free_levels(self):
        for k, board in enumerate(small_boards()):
            if k % 3 == 0:
                held = [level for many, weight in board[1] if weight for level in levels_of_dial(many, weight)]
                self.same(free_levels(board), tuple(level for level in levels_by_words(board[0]) if level not in held))
        self.same([free_levels(NONE), free_levels((1, ((2, 0),))), free_levels((4, ((2, 0),))), free_levels(CLOCK)],
                  [(), (), ((2, 1), (2, 2)), ()])

    def test_full_weights(self):
        for wheel in range(1, 100):
            for prime in range(wheel + 3):
                if (prime, 1) not in levels_by_words(wheel):
                    self.refuses("prime", full_weight, wheel, prime, 1)
                    continue
                top = exponent(wheel, prime)
                for level in range(-1, top + 3):
                    if 1 <= level <= top:
                        others = wheel // prime ** top
                        self.same(full_weight(wheel, prime, level), prime ** (level - 1) * others)
                    else:
                        self.refuses("level", full_weight, wheel, prime, level)

    def test_by_levels(self):
        for board in list(small_numberings()) + [DIGITS, RESTS, MILLION, grown((2, 3, 5, 7, 2, 3, 5, 2), 1)]:
            found = by_levels(board)
            self.same([level for level, _ in found], levels_by_words(board[0]) if board[0] < 9999 else list(wheel_levels(board[0])))
            for level, dial in found:
                self.assertIn(level, levels_of_dial(*board[1][dial]))
            self.same(found, tuple(sorted(found)))

    def test_checked(self):
        for dial in NO_NUMBERS + (3, 4):
            self.refuses("dial", levels_of, CLOCK, dial)
        for prime in NO_NUMBERS + (0, 1, 4, 5, 6, 12, 10 ** 99 + 1):
            for level in (1, 0, None):
                self.refuses("prime", full_weight, 12, prime, level)
        for level in NO_NUMBERS + (0, 3, 4):
            self.refuses("level", full_weight, 12, 2, level)
        self.refuses("prime", full_weight, 1, 2, 1)


class Filling(Case):

    def test_examples(self):
        self.same([filled((12, ((2, 6),))), can_fill((12, ((2, 1), (2, 5)))), can_fill(SIX)],
                  [(12, ((2, 6), (2, 3), (3, 4))), False, False])

    def test_by_name(self):
        self.same([filled(board=NONE), can_fill(board=NONE)], [NONE, True])

    def test_against_all_fillings(self):
        seen = {}
        for board in started_boards():
            wanted = can_be_filled(board)
            seen[wanted] = seen.get(wanted, 0) + 1
            self.same(can_fill(board), wanted)
            if wanted:
                self.fills(board)
            else:
                self.does_not_fill(board)
        self.assertTrue(min(seen.values()) > 50)

    def fills(self, board):
        wheel, dials = board
        new = filled(board)
        held = [level for many, weight in dials for level in levels_of_dial(many, weight)]
        wanted = [(p, p ** (l - 1) * (wheel // p ** exponent(wheel, p))) for p, l in levels_by_words(wheel) if (p, l) not in held]
        self.same(new, (wheel, dials + tuple(wanted)))
        self.assertTrue(is_one(new))
        self.same(lets_filling(board, new), len(wanted))

    def does_not_fill(self, board):
        with self.assertRaises(NoFilling) as caught:
            filled(board)
        fault = caught.exception.fault
        self.same(lets_nofilling(board, fault), fault[0])

    def test_each_kind_of_fault(self):
        for board, words in (((12, ((2, 6), (3, 0))), ("zero",)), ((12, ((2, 4),)), ("level",)), ((12, ((5, 4),)), ("level",)),
                             ((12, ((2, 1), (2, 5))), ("shared",)), ((12, ((2, 6), (2, 6))), ("shared",)), (SIX, ("full",)),
                             ((12, ((2, 1), (2, 2), (2, 5))), ("shared",)), ((8, ((2, 3), (8, 1))), ("shared", "level")),
                             ((12, ((2, 1), (3, 1))), ("full",))):
            self.same(can_fill(board), False)
            with self.assertRaises(NoFilling) as caught:
                filled(board)
            self.assertIn(caught.exception.fault[0], words)
            self.does_not_fill(board)

    def test_whole_boards(self):
        for board in list(small_numberings())[::9] + [MILLION, DIGITS]:
            self.same([can_fill(board), filled(board)], [True, board])
        for wheel in (1, 2, 36, 97, 128, 720, 30030):
            new = filled((wheel, ()))
            self.same([new[1][k][0] for k in range(len(new[1]))], [prime for prime, _ in wheel_levels(wheel)])
            self.same(lets_filling((wheel, ()), new), len(new[1]))
        self.same(lets_filling((10 ** 6, MILLION[1][:3]), filled((10 ** 6, MILLION[1][:3]))), 6)


class FillChecker(Case):

    def test_examples(self):
        self.same([lets_filling((12, ((2, 6),)), CLOCK), lets_nofilling(SIX, ("full", ("blind", 6)))], [2, 'full'])
        self.same([lets_filling(board=HALF, thing=CLOCK), lets_nofilling(board=SIX, thing=("full", ("blind", 6)))], [2, "full"])

    def test_filling_shape(self):
        for thing in NO_TUPLES + ((), (12,), (0, ()), (True, ()), (12, []), (12, ((2, 12),)), (12, ((1, 1),)), (12, (2,)), (12, (), ())):
            self.rejects("shape", -1, lets_filling, HALF, thing)
        self.rejects("shape", -1, lets_filling, NONE, (True, ()))

    def test_filling_wheel(self):
        for thing in (NONE, SIX, (24, ((2, 6),)), DIGITS, (10 ** 99, ((2, 6),))):
            self.rejects("wheel", 0, lets_filling, HALF, thing)

    def test_filling_dial(self):
        board = (12, ((2, 6), (3, 4)))
        for dials, k in (((), 0), (((2, 6),), 1), (((3, 4), (2, 6), (2, 1)), 0), (((2, 6), (3, 10), (2, 1)), 1),
                         (((2, 6), (2, 4)), 1), (((2, 1), (3, 1)), 0), (((2, 6), (2, 1), (3, 4)), 1)):
            self.rejects("dial", k, lets_filling, board, (12, dials))

    def test_filling_fault(self):
        for dials in (((2, 6),), ((2, 6), (3, 4)), ((2, 6), (3, 4), (2, 6)), ((2, 6), (6, 1), (2, 1)), ((2, 6), (6, 3))):
            self.rejects("fault", -1, lets_filling, HALF, (12, dials))
        self.rejects("fault", -1, lets_filling, (12, ()), (12, ()))
        self.rejects("fault", -1, lets_filling, (12, ()), (12, ((10 ** 99, 1),)))
        self.rejects("fault", -1, lets_filling, (12, ()), (12, ((2, 1),) * 800))

    def test_filling_accepted(self):
        self.same([lets_filling(HALF, ODD), lets_filling(HALF, (12, ((2, 6), (6, 1)))), lets_filling(HALF, (12, ((2, 6), (6, 5)))),
                   lets_filling(CLOCK, CLOCK), lets_filling((12, ()), CLOCK), lets_filling(NONE, NONE)], [2, 1, 1, 0, 3, 0])

    def test_against_all_boards(self):
        for board in itertools.islice(started_boards(), 0, None, 5):
            for thing in itertools.chain(boards_with(4, (2, 2)), boards_with(6, (2, 3)), boards_with(board[0], (2,))):
                wheel, dials = board
                if thing[0] != wheel:
                    self.rejects("wheel", 0, lets_filling, board, thing)
                elif thing[1][:len(dials)] != dials:
                    k = next(k for k, dial in enumerate(dials) if k >= len(thing[1]) or thing[1][k] != dial)
                    self.rejects("dial", k, lets_filling, board, thing)
                elif not is_one(thing):
                    self.rejects("fault", -1, lets_filling, board, thing)
                else:
                    self.same(lets_filling(board, thing), len(thing[1]) - len(dials))

    def test_nofilling_shape(self):
        for thing in NO_TUPLES + ((), ("zero",), ("zero", 0, 0), ("level", 0, 2), ("level", 0, 2, 1, 1), ("shared", 0, 1, 2),
                                  ("shared", 0, 1, 2, 1, 1), ("full",), ("full", ("blind", 6), 0), ["zero", 0], ("Zero", 0),
                                  ("blind", 6), (True, 0), (0, "zero"), (("zero",), 0), (["zero"], 0), (None, 0), "full", ("", 0), ("",), ("other",), (0,), ("blind", (0, 0), (0, 1)),
                                  (("full", ("blind", 6)),)):
            self.rejects("shape", -1, lets_nofilling, SIX, thing)

    def test_nofilling_zero(self):
        board = (12, ((2, 6), (3, 0), (2, 0)))
        self.same([lets_nofilling(board, ("zero", 1)), lets_nofilling(board, ("zero", 2))], ["zero", "zero"])
        for dial in NO_NUMBERS + (0, 3, 4):
            self.rejects("dial", 1, lets_nofilling, board, ("zero", dial))
        self.rejects("dial", 1, lets_nofilling, (12, ((2, 6), (3, 0))), ("zero", True))
        self.rejects("dial", 1, lets_nofilling, (12, ((2, 0),)), ("zero", False))

    def test_nofilling_level(self):
        board = (12, ((2, 6), (4, 6), (5, 1), (3, 0)))
        self.same([lets_nofilling(board, ("level", 1, 2, 3)), lets_nofilling(board, ("level", 2, 5, 1))], ["level", "level"])
        for dial in NO_NUMBERS + (4, 5):
            self.rejects("dial", 1, lets_nofilling, board, ("level", dial, 2, 3))
            self.rejects("dial", 1, lets_nofilling, board, ("level", dial, None, None))
        for dial, prime, level in itertools.product(range(4), range(7), range(5)):
            if (dial, prime, level) not in ((1, 2, 3), (2, 5, 1)):
                self.rejects("level", -1, lets_nofilling, board, ("level", dial, prime, level))
        for wrong in NO_INTEGERS:
            self.rejects("level", -1, lets_nofilling, board, ("level", 2, 5, wrong))
            self.rejects("level", -1, lets_nofilling, board, ("level", 2, wrong, 1))

    def test_nofilling_shared(self):
        board = (12, ((2, 1), (4, 1), (2, 2), (3, 0), (3, 1)))
        accepted = {(0, 1, 2, 1), (1, 2, 2, 2)}
        for values in itertools.product(range(7), range(7), (1, 2, 3), range(4)):
            thing = ("shared",) + values
            one, other = values[:2]
            if one > 4:
                self.rejects("dial", 1, lets_nofilling, board, thing)
            elif other > 4 or other <= one:
                self.rejects("dial", 2, lets_nofilling, board, thing)
            elif values in accepted:
                self.same(lets_nofilling(board, thing), "shared")
            else:
                self.rejects("level", -1, lets_nofilling, board, thing)
        for wrong in NO_NUMBERS:
            self.rejects("dial", 1, lets_nofilling, board, ("shared", wrong, wrong, 2, 1))
            self.rejects("dial", 2, lets_nofilling, board, ("shared", 0, wrong, None, 1))
            self.rejects("level", -1, lets_nofilling, board, ("shared", 0, 1, wrong, 1))
            self.rejects("level", -1, lets_nofilling, board, ("shared", 0, 1, 2, wrong))

    def test_nofilling_full(self):
        for fault in (("blind", 6), ("twice", (1, 0), (0, 1)), ("twice", (0, 1), (1, 0))):
            self.same(lets_nofilling(SIX, ("full", fault)), "full")
        for fault in (("blind", 3), ("blind", 2), ("twice", (0, 0), (0, 1)), ("product", 6), None, (), "blind", ["blind", 6], 6):
            self.rejects("full", -1, lets_nofilling, SIX, ("full", fault))
        half = (12, ((2, 1), (3, 1)))
        new = (12, ((2, 1), (3, 1), (2, 6)))
        self.same([lets_fault(new, ("twice", (1, 0, 0), (0, 1, 0))), lets_nofilling(half, ("full", ("twice", (1, 0, 0), (0, 1, 0))))],
                  ["twice", "full"])
        self.rejects("full", -1, lets_nofilling, half, ("full", ("twice", (1, 0), (0, 1))))
        self.rejects("full", -1, lets_nofilling, half, ("full", ("product", 6)))

    def test_nofilling_full_wants_levels_in_order(self):
        """A fault of the board does not do where a weight is 0, or a level is shared or not of the wheel."""
        for board in ((6, ((2, 0), (3, 2))), (4, ((2, 1), (2, 1))), (6, ((2, 2), (3, 1))), (6, ((2, 3), (3, 2), (5, 1))), (12, ((2, 6), (2, 6)))):
            for many in range(2, 13):
                self.rejects("full", -1, lets_nofilling, board, ("full", ("blind", many)))
            size = len(board[1])
            for length in range(size, size + 4):
                zero, one, two = (0,) * length, (1,) + (0,) * (length - 1), (0, 1) + (0,) * (length - 2)
                self.rejects("full", -1, lets_nofilling, board, ("full", ("twice", zero, one)))
                self.rejects("full", -1, lets_nofilling, board, ("full", ("twice", one, two)))
                self.rejects("full", -1, lets_nofilling, board, ("full", ("product", math.prod(many for many, _ in board[1]))))

    def test_what_fills_has_no_paper_against_it(self):
        for board in (HALF, NONE, (12, ()), CLOCK, (6, ((2, 3),))):
            for thing in [("zero", 0), ("level", 0, 2, 2), ("shared", 0, 1, 2, 1), ("full", ("product", 12))] + \
                    [("full", ("blind", many)) for many in (2, 3, 4, 6, 12)]:
                with self.assertRaises(InvalidPaper):
                    lets_nofilling(board, thing)
        for board in (BOTH, ODD):
            with self.assertRaises(InvalidPaper):
                lets_nofilling(board, ("full", ("blind", 2)))
