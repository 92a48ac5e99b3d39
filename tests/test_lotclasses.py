"""Point [52]: the class Lot."""

from tests.common import (BOTH, CLOCK, NO_INTEGERS, NO_NUMBERS, NO_TUPLES, NONE, ODD, SIX, Case, great_numberings, is_one, small_boards,
                          some_numberings)
from tests.reference import lots_by_words
from wheelwritten.errors import NoNumbering
from wheelwritten.faultchecker import lets_fault
from wheelwritten.lotclasses import Lot
from wheelwritten.lotjoining import joint_lot, lot_turned, refines, shared_lot
from wheelwritten.lots import firm_of, lot_board, lot_of

FIVE = (1, 2, 3, 6, 12)


class Lots(Case):

    def test_by_name(self):
        lot = Lot(wheel=12, lot=FIVE)
        other = Lot(12, (1, 4, 12))
        self.same([lot.told(), lot.has(many=6), lot.shared_with(other=other).told(), lot.joint_with(other=other).told(),
                   lot.refines_it(other=other), Lot.of_board(board=CLOCK).told()],
                  [(12, FIVE), True, (12, (1, 12)), (12, (1, 2, 3, 4, 6, 12)), False, (12, FIVE)])

    def test_as_the_functions(self):
        for wheel in (1, 2, 4, 12, 30):
            lots = lots_by_words(wheel)
            for one in lots[::1 + len(lots) // 8]:
                lot = Lot(wheel, one)
                self.same([lot.told(), lot.firm(), lot.as_board()], [(wheel, one), firm_of(wheel, one), lot_board(wheel, one)])
                self.assertIs(type(lot.turned()), Lot)
                self.same(lot.turned().told(), (wheel, lot_turned(wheel, one)))
                for many in range(-1, wheel + 2):
                    self.same(lot.has(many), many in one)
                for two in lots[::1 + len(lots) // 8]:
                    other = Lot(wheel, two)
                    self.same([lot.shared_with(other).told(), lot.joint_with(other).told(), lot.refines_it(other)],
                              [(wheel, shared_lot(wheel, one, two)), (wheel, joint_lot(wheel, one, two)), refines(wheel, one, two)])
                    self.assertIs(type(lot.shared_with(other)), Lot)
                    self.assertIs(type(lot.joint_with(other)), Lot)
                self.same(lot.told(), (wheel, one))

    def test_has_no_other_values(self):
        for wrong in NO_INTEGERS + (0, -12, 5, 24, 10 ** 99, Lot(12, FIVE)):
            self.same(Lot(12, FIVE).has(wrong), False)
        self.same(Lot(1, (1,)).has(True), False)

    def test_of_boards(self):
        for board in some_numberings(31) + great_numberings()[::3]:
            lot = Lot.of_board(board)
            self.assertIs(type(lot), Lot)
            self.same(lot.told(), (board[0], lot_of(board)))
        for thing, word, at in ((None, "shape", -1), ([12, ()], "shape", -1), ((True, ()), "wheel", 0), ((12, []), "dials", 1),
                                ((12, ((2, 6), (1, 12))), "range", 1), ((12, ((2, 12),)), "weight", 0), ((12, (2,)), "dial", 0)):
            self.rejects(word, at, Lot.of_board, thing)
        for board in [BOTH, SIX, (3, ())] + [board for k, board in enumerate(small_boards()) if k % 61 == 0 and not is_one(board)]:
            with self.assertRaises(NoNumbering) as caught:
                Lot.of_board(board)
            lets_fault(board, caught.exception.fault)

    def test_rejects(self):
        for wrong in NO_NUMBERS + (0,):
            self.rejects("wheel", 0, Lot, wrong, wrong)
            self.rejects("wheel", 0, Lot, wrong, (1,))
        for wrong in NO_TUPLES + ([1, 12], (True, 12), (1, None, 12)):
            self.rejects("shape", -1, Lot, 12, wrong)
        self.rejects("member", 1, Lot, 12, (1, 5, 12))
        self.rejects("member", 2, Lot, 12, (1, 3, 2, 12))
        self.rejects("one", 1, Lot, 12, (2, 12))
        self.rejects("wheel", 12, Lot, 12, (1, 2))
        self.rejects("gcd", (4, 6), Lot, 12, (1, 4, 6, 12))
        self.rejects("lcm", (2, 3), Lot, 12, (1, 2, 3, 12))

    def test_checked(self):
        lot = Lot(12, FIVE)
        for wrong in NO_TUPLES + (FIVE, (12, FIVE), Lot(6, (1, 6)), Lot(24, (1, 24)), Lot(1, (1,)), CLOCK, ODD, NONE):
            self.refuses("other", lot.shared_with, wrong)
            self.refuses("other", lot.joint_with, wrong)
            self.refuses("other", lot.refines_it, wrong)
