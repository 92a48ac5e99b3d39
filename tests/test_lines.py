"""Points [21] and [22]: boardlines and boardclasses."""

from tests.common import (BOTH, CLOCK, NO_TUPLES, NONE, ODD, RESTS, Case, great_numberings, settings, small_boards)
from wheelwritten.boardclasses import Board
from wheelwritten.boardlines import board_line, read_board, read_setting, setting_line
from wheelwritten.errors import InvalidPaper, InvalidText

NO_TEXTS = (None, 0, True, (), ("wheel 1:",), ["wheel 1:"])


class Reads(Case):

    def wrong(self, field, function, *values):
        self.raises(InvalidText, {"line": 0, "field": field}, function, *values)


class BoardLines(Reads):

    def test_examples(self):
        self.same([board_line(CLOCK), board_line((1, ())), setting_line(CLOCK, (1, 2, 0))],
                  ['wheel 12: 2@6 3@4 2@1', 'wheel 1:', '1 2 0'])
        self.wrong(3, read_board, 'wheel 12: 2@6 3@12')

    def test_by_name(self):
        self.same([board_line(board=NONE), read_board(text="wheel 1:"), setting_line(board=NONE, setting=()),
                   read_setting(board=NONE, text="-")], ["wheel 1:", NONE, "-", ()])

    def test_round_trip(self):
        for k, board in enumerate(small_boards()):
            if k % 11 == 0:
                self.same(read_board(board_line(board)), board)
        for board in great_numberings():
            self.same(read_board(board_line(board)), board)

    def test_zero_is_written(self):
        self.same(board_line((1, ((2, 0),))), "wheel 1: 2@0")
        self.same(read_board("wheel 1: 2@0"), (1, ((2, 0),)))
        self.same(read_board("wheel 10: 10@0"), (10, ((10, 0),)))

    def test_first_word(self):
        for text in ("", " ", "wheels 12:", "Wheel 12:", "12: 2@6", " wheel 12:", "wheel\\ 12:", "wheel: 12:", "WHEEL 12: 2@6"):
            self.wrong(0, read_board, text)

    def test_wheel_word(self):
        for word in ("", "12", ":", "0:", "012:", "00:", "-1:", "+1:", "1 :", "12::", "12;", "x:", "X:", "1X:", "1_2:", "1.0:", "12:2@6", ":12",
                     "0x1:", "1e1:"):
            self.wrong(1, read_board, "wheel " + word)
            self.wrong(1, read_board, "wheel " + word + " 2@0")
        self.wrong(1, read_board, "wheel")
        self.wrong(1, read_board, "wheel  12:")

    def test_dial_words(self):
        for word in ("", "2", "@", "2@", "@1", "2@12", "2@13", "1@1", "0@1", "02@1", "2@01", "2@00", "-2@1", "2@-1", "+2@1", "2@1@1",
                     "2@@1", "2;1", "2@x", "x@1", "2@X", "X@1", "1A@1", "2@1:", "2@1,", "1_0@1", "2@1_0", "1@12", "2.0@1", "(2@1)"):
            self.wrong(2, read_board, "wheel 12: " + word)
            self.wrong(3, read_board, "wheel 12: 2@11 " + word)
            self.wrong(3, read_board, "wheel 12: 2@11 " + word + " 1@1")
            self.wrong(4, read_board, "wheel 12: 2@11 3@0 " + word + " 2@1")
        self.wrong(2, read_board, "wheel 12:  2@6")
        self.wrong(3, read_board, "wheel 12: 2@6 ")
        self.wrong(2, read_board, "wheel 1: 2@1")

    def test_text_is_checked(self):
        for text in NO_TEXTS:
            self.refuses("text", read_board, text)
            self.refuses("text", read_setting, CLOCK, text)


class SettingLines(Reads):

    def test_round_trip(self):
        for board in (CLOCK, ODD, BOTH, NONE, (5, ()), (1, ((2, 0), (11, 0)))):
            for setting in settings(board):
                line = " ".join(str(figure) for figure in setting) if setting else "-"
                self.same(setting_line(board, setting), line)
                self.same(read_setting(board, line), setting)
        great = (10 ** 60, ((10 ** 60, 1), (2, 0)))
        self.same(read_setting(great, "9" * 60 + " 1"), (10 ** 60 - 1, 1))

    def test_setting_is_checked(self):
        for setting in ((), (0, 0), (2, 0, 0), (True, 0, 0), [0, 0, 0], None, "000", (0, 3, 0), (0, 0, -1)):
            self.refuses("setting", setting_line, CLOCK, setting)
        self.refuses("setting", setting_line, NONE, (0,))

    def test_figures(self):
        for word in ("", "-", "3", "12", "01", "00", "-1", "+1", "x", "1_0", "1:", "1@1", "1,"):
            self.wrong(1, read_setting, CLOCK, "0 " + word + " 0")
            self.wrong(1, read_setting, CLOCK, "0 " + word + " 5")
            self.wrong(1, read_setting, CLOCK, "0 " + word)
            self.wrong(0, read_setting, CLOCK, word)
        self.wrong(0, read_setting, CLOCK, "2 3 2")
        self.wrong(2, read_setting, CLOCK, "1 2 2")
        self.wrong(0, read_setting, CLOCK, " 1 2 0")
        self.wrong(1, read_setting, CLOCK, "1  2 0")

    def test_lacking_and_too_many(self):
        self.wrong(1, read_setting, CLOCK, "0")
        self.wrong(2, read_setting, CLOCK, "0 0")
        self.wrong(3, read_setting, CLOCK, "0 0 0 0")
        self.wrong(3, read_setting, CLOCK, "0 0 0 ")
        self.wrong(3, read_setting, CLOCK, "0 0 0 x y")
        self.wrong(0, read_setting, CLOCK, "-")

    def test_no_dials(self):
        for text in ("", "0", "--", " -", " ", "- 0"[1:]):
            self.wrong(0, read_setting, NONE, text)
        for text in ("- ", "- -", "- 0", "-  "):
            self.wrong(1, read_setting, NONE, text)
        self.same(read_setting((7, ()), "-"), ())


class BoardObjects(Reads):

    def test_told(self):
        board = Board(12, CLOCK[1])
        self.same([board.told(), board.how_many(), board.places_told(), board.at_setting((1, 2, 1)), board.as_line()],
                  [CLOCK, 3, (0, 1, 4, 5, 8, 9, 6, 7, 10, 11, 2, 3), 3, "wheel 12: 2@6 3@4 2@1"])
        empty = Board(wheel=1, dials=())
        self.same([empty.told(), empty.how_many(), empty.places_told(), empty.at_setting(setting=()), empty.as_line()],
                  [NONE, 0, (0,), 0, "wheel 1:"])

    def test_new_boards(self):
        board = Board(12, ODD[1])
        for new, wanted in ((board.scaled_by(5), (12, ((2, 6), (3, 2), (2, 5)))),
                            (board.scaled_by(unit=5), (12, ((2, 6), (3, 2), (2, 5)))),
                            (board.sorted_by((2, 0, 1)), (12, ((2, 1), (2, 6), (3, 10)))),
                            (board.sorted_by(sequence=(2, 0, 1)), (12, ((2, 1), (2, 6), (3, 10)))),
                            (Board(8, ((4, 3), (2, 1))).part(0, 2), (8, ((2, 3), (2, 6), (2, 1)))),
                            (Board(8, ((4, 3), (2, 1))).part(dial=0, low=2), (8, ((2, 3), (2, 6), (2, 1))))):
            self.assertIs(type(new), Board)
            self.same(new.told(), wanted)
        self.same(board.told(), ODD)

    def test_errors(self):
        board = Board(12, CLOCK[1])
        for unit in (None, True, 0, 2, 12, "5"):
            self.refuses("unit", board.scaled_by, unit)
        for sequence in ((), (0, 1), (0, 1, 1), [0, 1, 2], None, (0, True, 2)):
            self.refuses("sequence", board.sorted_by, sequence)
        self.refuses("dial", board.part, 3, 2)
        self.refuses("dial", board.part, True, None)
        self.refuses("low", board.part, 0, 2)
        self.refuses("setting", board.at_setting, (0, 0))
        self.refuses("setting", board.at_setting, (False, 0, 0))
        self.same(board.told(), CLOCK)

    def test_made_wrong(self):
        for wheel, dials, word, at in ((0, (), "wheel", 0), (True, (), "wheel", 0), (12, None, "dials", 1), (12, [], "dials", 1),
                                       (None, None, "wheel", 0), (12, (2,), "dial", 0), (12, ((2, 6), (1, 12)), "range", 1),
                                       (12, ((2, 12),), "weight", 0), (1, ((2, False),), "weight", 0)):
            self.raises(InvalidPaper, {"word": word, "at": at}, Board, wheel, dials)

    def test_is_same(self):
        one, other = Board(6, ((2, 3), (3, 2))), Board(6, ((3, 2), (2, 3)))
        self.same([one.is_same(other), one.is_same(other, True), one.is_same(other, as_sets=True),
                   one.is_same(other, False), one.is_same(Board(6, RESTS[1])), one.is_same(Board(6, ()), True)],
                  [False, True, True, False, True, False])
        for wrong in (RESTS, None, 6, "wheel 6: 2@3 3@2", True) + NO_TUPLES:
            for as_sets in (True, False, None):
                self.refuses("other", one.is_same, wrong, as_sets)
        for as_sets in (None, 0, 1, "x", ()):
            self.refuses("as_sets", one.is_same, other, as_sets)

    def test_of_line(self):
        board = Board.of_line("wheel 12: 2@6 3@4 2@1")
        self.assertIs(type(board), Board)
        self.same(board.told(), CLOCK)
        self.same(Board.of_line(text="wheel 1:").told(), NONE)
        self.wrong(3, Board.of_line, "wheel 12: 2@6 3@12")
        self.wrong(1, Board.of_line, "wheel 0:")
        for text in NO_TEXTS:
            self.refuses("text", Board.of_line, text)
