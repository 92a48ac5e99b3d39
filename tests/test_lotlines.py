"""Point [52]: lotlines."""

from tests.common import CLOCK, NO_TUPLES, Case, great_numberings
from tests.reference import all_orders, lots_by_words
from wheelwritten.errors import InvalidRow, InvalidText
from wheelwritten.lotlines import lot_line, order_line, read_lot, read_order
from wheelwritten.lots import lot_of
from wheelwritten.reaching import reach_of

FIVE = (1, 2, 3, 6, 12)
NO_TEXTS = (None, 0, True, (), ("lot 1: 1",), ["-"], -5)


class Lines(Case):

    def wrong(self, field, function, text):
        self.raises(InvalidText, {"line": 0, "field": field}, function, text)

    def no_row(self, row, function, text):
        self.raises(InvalidRow, {"row": row}, function, text)

    def test_examples(self):
        self.same([lot_line(12, FIVE), order_line(3, ((), (0,), (0, 1)))], ['lot 12: 1 2 3 6 12', '0: -; 1: 0; 2: 0 1'])
        self.same([read_lot('lot 12: 1 2 3 6 12'), read_order('0: -; 1: 0; 2: 0 1')], [(12, FIVE), ((), (0,), (0, 1))])

    def test_by_name(self):
        self.same([lot_line(wheel=1, lot=(1,)), read_lot(text="lot 1: 1"), order_line(size=0, order=()), read_order(text="-")],
                  ["lot 1: 1", (1, (1,)), "-", ()])

    def test_round_trip(self):
        for wheel in (1, 2, 4, 12, 30):
            for lot in lots_by_words(wheel):
                self.same(read_lot(lot_line(wheel, lot)), (wheel, lot))
        for size in range(4):
            for order in all_orders(size):
                self.same(read_order(order_line(size, order)), order)
        for board in great_numberings():
            self.same(read_lot(lot_line(board[0], lot_of(board))), (board[0], lot_of(board)))
            self.same(read_order(order_line(len(board[1]), reach_of(board))), reach_of(board))

    def test_one_dial(self):
        self.same([order_line(1, ((),)), read_order("0: -")], ["0: -", ((),)])

    def test_more_than_ten_dials(self):
        order = ((),) * 10 + ((9,), (9, 10))
        self.assertTrue(order_line(12, order).endswith("; 8: -; 9: -; 10: 9; 11: 9 10"))
        self.same(read_order(order_line(12, order)), order)

    def test_lot_fields(self):
        for text in ("", " ", "lots 12: 1 12", "Lot 12: 1 12", "12: 1 12", " lot 12: 1 12", "lot: 12: 1", "wheel 12: 1 12", "-"):
            self.wrong(0, read_lot, text)
        for word in ("", "12", ":", "0:", "012:", "-1:", "+1:", "12::", "12;", "x:", "1_2:", "1.0:", ":12"):
            self.wrong(1, read_lot, "lot " + word)
            self.wrong(1, read_lot, "lot " + word + " x")
        self.wrong(1, read_lot, "lot")
        self.wrong(1, read_lot, "lot  12: 1 12")
        for word in ("", "x", "01", "00", "-1", "+1", "1,", "1;", "1:", "1.0", "1_2", "-", "(1)"):
            self.wrong(2, read_lot, "lot 12: " + word)
            self.wrong(2, read_lot, "lot 12: " + word + " x")
            self.wrong(3, read_lot, "lot 12: 5 " + word)
            self.wrong(4, read_lot, "lot 12: 1 12 " + word)

    def test_no_lot(self):
        self.no_row((), read_lot, "lot 12:")
        self.no_row((), read_lot, "lot 1:")
        self.no_row((1,), read_lot, "lot 12: 1")
        self.no_row((0, 1, 1), read_lot, "lot 1: 0 1 1")
        self.no_row((12, 1), read_lot, "lot 12: 12 1")
        self.no_row((1, 4, 6, 12), read_lot, "lot 12: 1 4 6 12")
        self.no_row((1, 10 ** 99, 12), read_lot, "lot 12: 1 1" + "0" * 99 + " 12")

    def test_order_fields(self):
        for field in ("", " ", "0:", "0: ", "0 -", "1: -", "00: -", "0 : -", "0:-", "0: - -", "0: -1", "0: 01", "0: x", "0: 1 -", "0: - 1", "0:  1",
                      "0: 1 ", " 0: -", "0: -;", "0: -;1: 0", "0: 1,2", "0: +1", "-:-", "0: --", "x: -", "0: 1_0", "0: (1)"):
            self.wrong(0, read_order, field)
            self.wrong(0, read_order, field + "; 1: -")
            self.wrong(0, read_order, field + "; x")
        for field in ("", " ", "1:", "0: -", "2: -", "-", "1: 00", "01: -", "1: - ", "1: 0 x", "1 : 0"):
            self.wrong(1, read_order, "0: -; " + field)
            self.wrong(1, read_order, "0: 7; " + field + "; x")
        for field in ("", "0: -", "1: -", "3: -", "2:", "-"):
            self.wrong(2, read_order, "0: 5; 1: -; " + field)
        self.wrong(0, read_order, "-; 0: -")
        self.wrong(0, read_order, "- ")
        self.wrong(1, read_order, "0: -; -")
        self.wrong(1, read_order, "0: -; ")

    def test_no_order(self):
        self.no_row(((0,),), read_order, "0: 0")
        self.no_row(((1,),), read_order, "0: 1")
        self.no_row(((1,), (0,)), read_order, "0: 1; 1: 0")
        self.no_row(((), (0,), (1,)), read_order, "0: -; 1: 0; 2: 1")
        self.no_row(((), (), (1, 0)), read_order, "0: -; 1: -; 2: 1 0")
        self.no_row(((), (0, 0)), read_order, "0: -; 1: 0 0")
        self.no_row(((), (10 ** 99,)), read_order, "0: -; 1: 1" + "0" * 99)

    def test_checked(self):
        for wrong in NO_TEXTS:
            self.refuses("text", read_lot, wrong)
            self.refuses("text", read_order, wrong)
        for wrong in NO_TUPLES + ((), (1,), (12,), (1, 4, 6, 12), (True, 12), [1, 12], (12, 1)):
            self.refuses("lot", lot_line, 12, wrong)
        for wrong in NO_TUPLES + ((), ((), ()), ((), (0,), (1,)), ((), (), (True,)), [(), (), ()], ((), (), [])):
            self.refuses("order", order_line, 3, wrong)
        self.refuses("order", order_line, 0, ((),))
        self.same(lot_line(12, lot_of(CLOCK)), "lot 12: 1 2 3 6 12")
