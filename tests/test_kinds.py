"""Point [13]: kinds and boardchecker."""

import itertools

from tests.common import BOTH, CLOCK, NONE, RESTS, Case
from wheelwritten.boardchecker import lets_board
from wheelwritten.kinds import (is_board, is_dial, is_integer, is_number, is_ranges, is_sequence, is_set,
                                is_setting, is_wheel)

ANY = (True, False, None, "", "0", "1", "wheel", (), [], (1,), [1], (0,), (2,), ((),), (None,), (True,), (1, 2),
       [1, 2], (1, (2,)), -1, 0, 1, 2, 3, 10 ** 99, -10 ** 99, ((1, 2), 3))


class Kinds(Case):

    def test_integers(self):
        for thing in ANY:
            self.same(is_integer(thing), type(thing) is int)
            self.same(is_number(thing), type(thing) is int and thing >= 0)
            self.same(is_wheel(thing), type(thing) is int and thing >= 1)

    def test_examples(self):
        self.same([is_number(True), is_wheel(0), is_dial(12, (2, 11)), is_dial(12, [2, 11])],
                  [False, False, True, False])
        self.same([is_set(3, (0, 2)), is_set(3, (2, 0)), is_sequence(3, (2, 0, 1))], [True, False, True])

    def test_by_name(self):
        self.same([is_integer(thing=1), is_number(thing=1), is_wheel(thing=1), is_dial(wheel=3, thing=(2, 2)),
                   is_board(thing=NONE), is_setting(board=NONE, thing=()), is_ranges(thing=()),
                   is_set(size=0, thing=()), is_sequence(size=0, thing=())], [True] * 9)
        self.same(lets_board(thing=NONE), (1, 0))

    def test_dials(self):
        for wheel in (1, 2, 12, 10 ** 60):
            for many in (2, 3, 10 ** 60):
                for weight in (0, wheel - 1):
                    self.same(is_dial(wheel, (many, weight)), True)
                for weight in (wheel, -1, True, False, None, "0", (0,)):
                    self.same(is_dial(wheel, (many, weight)), False)
        for many in (1, 0, -2, True, None, "2", (2,)):
            self.same(is_dial(12, (many, 1)), False)
        for thing in ANY + ((2,), (2, 1, 0), [2, 1], "21"):
            if thing != (1, 2) or thing == [1, 2]:
                self.same(is_dial(12, thing), False)
        self.same(is_dial(12, (1, 2)), False)

    def test_boards(self):
        for board in (NONE, CLOCK, BOTH, (3, ()), (1, ((2, 0),)), (10 ** 60, ((10 ** 60, 10 ** 60 - 1),)),
                      (6, ((7, 5),) * 8)):
            self.same(is_board(board), True)
            self.same(lets_board(board), (board[0], len(board[1])))
        for thing in ANY:
            self.same(is_board(thing), False)

    def test_board_beyond_limits(self):
        board = (10 ** 99, ((2, 1),) * 800)
        self.same(is_board(board), True)
        self.same(lets_board(board), (10 ** 99, 800))

    def test_board_shape(self):
        for thing in (None, 12, True, "ab", (), (12,), (12, (), ()), [12, ()], (12, (), None)):
            self.same(is_board(thing), False)
            self.rejects("shape", -1, lets_board, thing)

    def test_board_wheel(self):
        for wheel in (0, -1, True, False, None, "12", (12,), -12):
            for dials in ((), [], None, ((1, 1),)):
                self.same(is_board((wheel, dials)), False)
                self.rejects("wheel", 0, lets_board, (wheel, dials))

    def test_board_dials(self):
        for dials in (None, 2, True, "", [], [(2, 1)], "ab"):
            self.same(is_board((12, dials)), False)
            self.rejects("dials", 1, lets_board, (12, dials))

    def test_board_dial(self):
        for good in range(4):
            ahead = ((2, 1), (3, 11), (4, 0))[:good]
            for behind in ((), ((2, 1),), ((1, 1),), (5,)):
                for wrong in (None, 2, True, "ab", (), (2,), (2, 1, 1), [2, 1]):
                    self.reject_dial("dial", ahead, wrong, behind)
                for many in (1, 0, -1, True, False, None, "2", (2,)):
                    for weight in (0, 12, True, None):
                        self.reject_dial("range", ahead, (many, weight), behind)
                for weight in (12, 13, -1, True, False, None, "1", (1,)):
                    self.reject_dial("weight", ahead, (2, weight), behind)

    def reject_dial(self, word, ahead, wrong, behind):
        thing = (12, ahead + (wrong,) + behind)
        self.same(is_board(thing), False)
        self.rejects(word, len(ahead), lets_board, thing)

    def test_board_example(self):
        self.rejects("range", 1, lets_board, (12, ((2, 6), (1, 12))))

    def test_settings(self):
        for setting in itertools.product(range(-1, 3), repeat=2):
            self.same(is_setting(RESTS, setting), setting[0] in (0, 1) and setting[1] in (0, 1, 2))
        for thing in ((), (0,), (0, 0, 0), [0, 0], "00", None, 0, (True, 0), (0, False), (0, None), (0, "0"), (0, (0,))):
            self.same(is_setting(RESTS, thing), False)
        self.same(is_setting(NONE, ()), True)
        for thing in ([], (0,), None, 0, ""):
            self.same(is_setting(NONE, thing), False)

    def test_ranges(self):
        for thing in ((), (2,), (2, 2, 3), (10 ** 60,) * 8):
            self.same(is_ranges(thing), True)
        for thing in ([], [2], (1,), (2, 1), (0,), (2, True), (2, None), (2, "3"), ((2,),), None, 2, "2", (-2,)):
            self.same(is_ranges(thing), False)

    def test_sets(self):
        for size in range(4):
            for length in range(4):
                for thing in itertools.product(range(-1, 5), repeat=length):
                    wanted = all(0 <= number < size for number in thing) and list(thing) == sorted(set(thing))
                    self.same(is_set(size, thing), wanted)
                    self.same(is_sequence(size, thing), sorted(thing) == list(range(size)))
        for thing in (None, 0, "", "0", [], [0, 1], (True,), (False,), (0, True), (False, 1), (0, None), (0, "1"), ((0,),)):
            self.same(is_set(2, thing), False)
            self.same(is_sequence(2, thing), False)
        self.same([is_sequence(1, (False,)), is_sequence(2, (0, True)), is_sequence(0, [])], [False, False, False])

    def test_sets_of_great_size(self):
        self.same(is_set(10 ** 60, (0, 5, 10 ** 60 - 1)), True)
        self.same(is_set(10 ** 60, (0, 5, 10 ** 60)), False)
        self.same(is_sequence(10 ** 60, (0, 1)), False)
        self.same(is_sequence(3000, tuple(range(2999, -1, -1))), True)
