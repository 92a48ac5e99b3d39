"""Points [27] and [28]: faults and faultchecker."""

import itertools
import math

from tests.common import (BOTH, CLOCK, NO_NUMBERS, NO_TUPLES, NONE, ODD, RESTS, SIX, Case, great_numberings, is_one,
                          place, settings, small_boards)
from tests.reference import is_blind
from wheelwritten.faultchecker import lets_fault
from wheelwritten.faults import fault_of, stuck_at, twice_of
from wheelwritten.laying import laying_of


class Faults(Case):

    def test_examples(self):
        self.same([stuck_at(SIX), twice_of(SIX), stuck_at((3, ())), fault_of(CLOCK)], [6, None, 3, None])

    def test_by_name(self):
        self.same([fault_of(board=NONE), stuck_at(board=NONE), twice_of(board=NONE)], [None, 1, None])

    def is_fault(self, board, fault):
        """By the words of the document."""
        wheel, dials = board
        self.assertIs(type(fault), tuple)
        if fault[0] == "product":
            self.same(fault, ("product", math.prod(many for many, _ in dials)))
            self.assertNotEqual(fault[1], wheel)
        elif fault[0] == "twice":
            self.is_pair_of_settings(board, fault[1:])
        else:
            self.same(fault[0], "blind")
            self.assertEqual(len(fault), 2)
            self.assertIs(type(fault[1]), int)
            self.assertTrue(fault[1] > 1 and wheel % fault[1] == 0 and is_blind(board, fault[1]))

    def is_pair_of_settings(self, board, pair):
        self.assertIs(type(pair), tuple)
        self.assertEqual(len(pair), 2)
        for setting in pair:
            self.assertIs(type(setting), tuple)
            self.assertEqual(len(setting), len(board[1]))
            for figure, (many, _) in zip(setting, board[1]):
                self.assertIs(type(figure), int)
                self.assertTrue(0 <= figure < many)
        self.assertNotEqual(pair[0], pair[1])
        self.assertEqual(place(board, pair[0]), place(board, pair[1]))

    def judge(self, board):
        fault = fault_of(board)
        self.is_fault(board, fault)
        self.same(lets_fault(board, fault), fault[0])
        self.find_twice(board)

    def find_twice(self, board):
        taken, left = laying_of(board)
        self.same(stuck_at(board), left)
        soon = [dial for dial, (many, weight) in enumerate(board[1]) if dial not in taken and left // math.gcd(left, weight) < many]
        if not soon:
            self.same(twice_of(board), None)
        else:
            self.is_pair_of_settings(board, twice_of(board))

    def test_small_boards(self):
        for board in small_boards():
            if is_one(board):
                self.same(fault_of(board), None)
                self.find_twice(board)
            else:
                self.judge(board)

    def test_edges(self):
        self.same(fault_of((3, ()))[0] in ("product", "blind"), True)
        self.same(fault_of((1, ((2, 0),)))[0] in ("product", "twice"), True)
        self.same(fault_of((2, ((2, 0),))) in (("twice", (0,), (1,)), ("twice", (1,), (0,)), ("blind", 2)), True)
        for board in (SIX, BOTH, (4, ((2, 2), (2, 2))), (9, ((3, 1), (3, 1))), (8, ((2, 4), (2, 2), (2, 2)))):
            self.judge(board)

    def test_dials_that_write_more_than_once(self):
        for board in ((12, ((2, 6), (3, 4), (2, 6))), (12, ((3, 4), (2, 6), (2, 2))), (24, ((2, 12), (3, 8), (2, 2), (2, 10))),
                      (36, ((2, 18), (3, 12), (2, 9), (3, 6))), (6, ((2, 3), (3, 2), (5, 1)))):
            self.judge(board)

    def test_great_boards(self):
        for wheel, dials in great_numberings():
            self.same(fault_of((wheel, dials)), None)
            self.same([stuck_at((wheel, dials)), twice_of((wheel, dials))], [1, None])
            for dial, (many, weight) in enumerate(dials):
                for factor in (0, 2, 3, 5, 10):
                    changed = (wheel, dials[:dial] + ((many, weight * factor % wheel),) + dials[dial + 1:])
                    if fault_of(changed) is not None:
                        self.judge(changed)
                self.judge((wheel, dials[:dial] + dials[dial + 1:]))
                self.judge((wheel, dials[:dial] + ((many * 2, weight),) + dials[dial + 1:]))
                self.judge((wheel * 2, dials))
            zero = (wheel, tuple((many, 0) for many, _ in dials))
            self.judge(zero)


class FaultChecker(Case):

    def test_examples(self):
        self.same([lets_fault(SIX, ("blind", 6)), lets_fault(SIX, ("twice", (1, 0), (0, 1)))], ['blind', 'twice'])
        self.rejects("dial", 1, lets_fault, SIX, ("blind", 3))
        self.same(lets_fault(board=SIX, thing=("blind", 6)), "blind")

    def test_shape(self):
        for thing in NO_TUPLES + (("product",), ("blind",), ("twice",), ("twice", (0, 0)), ("product", 6, 6), ("blind", 6, 6),
                                  ("twice", (1, 0), (0, 1), 0), ["blind", 6], ("Blind", 6), ("zero", 6), (6, "blind"), (True, 6),
                                  (("blind",), 6), (None, 6), (["blind"], 6), ((), 6), ("", 6), ((),), "blind", "product", ("",), ("zero",), ("other", 1, 2), (6,),
                                  (None,), ("productblind", 6), (("product", 6),)):
            self.rejects("shape", -1, lets_fault, SIX, thing)
        self.rejects("shape", -1, lets_fault, SIX, ())

    def test_product(self):
        board = (12, ((2, 1), (3, 1)))
        self.same(lets_fault(board, ("product", 6)), "product")
        for wrong in NO_NUMBERS + (0, 1, 2, 3, 5, 7, 12):
            self.rejects("product", 1, lets_fault, board, ("product", wrong))
        for board in (SIX, CLOCK, NONE):
            for number in (1, 6, 12, True):
                self.rejects("product", 1, lets_fault, board, ("product", number))
        self.same(lets_fault((3, ()), ("product", 1)), "product")
        self.rejects("product", 1, lets_fault, (3, ()), ("product", True))
        self.same(lets_fault((1, ((10 ** 40, 0), (10 ** 40, 0))), ("product", 10 ** 80)), "product")

    def test_twice(self):
        wrong = ((), (0,), (0, 0, 0), (2, 0), (0, 3), (True, 0), (0, False), [0, 0], None, "00", 0, (-1, 0))
        for setting in wrong:
            self.rejects("setting", 1, lets_fault, SIX, ("twice", setting, (0, 1)))
            self.rejects("setting", 2, lets_fault, SIX, ("twice", (0, 1), setting))
            for other in wrong:
                self.rejects("setting", 1, lets_fault, SIX, ("twice", setting, other))
        for board in (SIX, CLOCK, BOTH, (2, ((2, 0), (3, 1)))):
            for one, other in itertools.product(settings(board), repeat=2):
                if one == other:
                    self.rejects("alike", -1, lets_fault, board, ("twice", one, other))
                elif place(board, one) != place(board, other):
                    self.rejects("place", -1, lets_fault, board, ("twice", one, other))
                else:
                    self.same(lets_fault(board, ("twice", one, other)), "twice")
        self.rejects("alike", -1, lets_fault, NONE, ("twice", (), ()))

    def test_blind(self):
        for wrong in NO_NUMBERS + (0, 1, 4, 5, 12, 7):
            self.rejects("blind", 1, lets_fault, SIX, ("blind", wrong))
        self.rejects("blind", 1, lets_fault, NONE, ("blind", 1))
        for k, board in enumerate(small_boards()):
            if k % 4:
                continue
            wheel, dials = board
            for many in range(wheel + 2):
                if many < 2 or wheel % many:
                    self.rejects("blind", 1, lets_fault, board, ("blind", many))
                    continue
                seeing = [d for d, (size, weight) in enumerate(dials) if size * weight % many == 0 and weight % many]
                if seeing:
                    self.rejects("dial", seeing[0], lets_fault, board, ("blind", many))
                else:
                    self.same(lets_fault(board, ("blind", many)), "blind")
                    self.assertFalse(is_one(board))

    def test_a_numbering_has_no_fault(self):
        for board in (CLOCK, ODD, RESTS):
            for many in range(2, 13):
                if board[0] % many == 0:
                    with self.assertRaises(ValueError):
                        lets_fault(board, ("blind", many))
