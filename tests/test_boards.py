"""Points [16] and [17]: boards and listing."""

import types

from tests.common import (BOTH, CLOCK, DIGITS, NO_NUMBERS, NONE, ODD, RESTS, SIX, Case, is_one, place, settings,
                          small_boards, table)
from wheelwritten.boards import is_same_board, place_of, ranges_of, settings_of, weights_of
from wheelwritten.listing import missed_places, places_of, settings_at, shared_places

NO_SETTINGS = ((), (0, 0), (0, 0, 0, 0), (2, 0, 0), (0, 3, 0), (0, 0, 2), (-1, 0, 0), (True, 0, 0), (0, False, 0),
               (0, 0, None), (0, 0, "0"), [0, 0, 0], None, 0, "000")


class Boards(Case):

    def test_examples(self):
        self.same([place_of(CLOCK, (1, 2, 1)), is_same_board(RESTS, (6, ((3, 2), (2, 3))), True)], [3, True])

    def test_by_name(self):
        self.same([ranges_of(board=RESTS), weights_of(board=RESTS), place_of(board=RESTS, setting=(1, 1)),
                   list(settings_of(board=(2, ((2, 1),)))), is_same_board(board=SIX, other=SIX, as_sets=False)],
                  [(2, 3), (3, 2), 5, [(0,), (1,)], True])

    def test_ranges_and_weights(self):
        self.same([ranges_of(CLOCK), weights_of(CLOCK), ranges_of(NONE), weights_of(NONE)],
                  [(2, 3, 2), (6, 4, 1), (), ()])

    def test_places(self):
        for board in (CLOCK, ODD, RESTS, SIX, BOTH, NONE, (5, ()), (1, ((2, 0), (3, 0)))):
            for setting in settings(board):
                self.same(place_of(board, setting), place(board, setting))
        self.same(place_of(DIGITS, (3, 2, 1)), 123)
        great = (10 ** 60, ((10 ** 30, 10 ** 30), (10 ** 30, 10 ** 60 - 1)))
        self.same(place_of(great, (10 ** 30 - 1, 1)), 10 ** 60 - 10 ** 30 - 1)

    def test_setting_is_checked(self):
        for setting in NO_SETTINGS:
            self.refuses("setting", place_of, CLOCK, setting)
        self.refuses("setting", place_of, NONE, (0,))

    def test_settings(self):
        for board in (CLOCK, ODD, RESTS, BOTH, NONE, (5, ()), (1, ((2, 0), (3, 0))), (200, ((2, 1), (100, 0)))):
            self.assertIsInstance(settings_of(board), types.GeneratorType)
            self.same(list(settings_of(board)), sorted(settings(board)))

    def test_same_boards(self):
        twice = (6, ((2, 1), (2, 1), (3, 2)))
        other = (6, ((3, 2), (2, 1), (2, 1)))
        thrice = (6, ((2, 1), (3, 2), (3, 2)))
        self.same([is_same_board(twice, twice, False), is_same_board(twice, twice, True)], [True, True])
        self.same([is_same_board(twice, other, False), is_same_board(twice, other, True)], [False, True])
        mixed = (6, ((2, 1), (3, 2), (2, 1)))
        self.same([is_same_board(other, mixed, True), is_same_board(mixed, other, True), is_same_board(other, mixed, False),
                   is_same_board(other, thrice, True)], [True, True, False, False])
        self.same([is_same_board(twice, thrice, False), is_same_board(twice, thrice, True)], [False, False])
        self.same([is_same_board((6, ()), (5, ()), False), is_same_board((6, ()), (5, ()), True)], [False, False])
        self.same([is_same_board((7, twice[1]), other, True), is_same_board(SIX, RESTS, True)], [False, False])

    def test_same_boards_checked(self):
        for other in (None, True, 6, (), (6,), (0, ()), (6, []), (6, ((2, 6),)), (6, ((1, 0),)), [6, ()], (True, ())):
            for as_sets in (False, True, None):
                self.refuses("other", is_same_board, RESTS, other, as_sets)
        for as_sets in (None, 0, 1, "", "True", (), (True,)):
            self.refuses("as_sets", is_same_board, RESTS, RESTS, as_sets)


class Listing(Case):

    def test_examples(self):
        self.same([settings_at(BOTH, 1), places_of(BOTH), missed_places(BOTH), shared_places(BOTH)],
                  [((0, 1), (1, 0)), (0, 1, 1, 2), (3,), (1,)])

    def test_by_name(self):
        self.same([settings_at(board=NONE, place=0), places_of(board=NONE), missed_places(board=NONE),
                   shared_places(board=NONE)], [((),), (0,), (), ()])

    def test_small_boards(self):
        for k, board in enumerate(small_boards()):
            if k % 5:
                continue
            found = table(board)
            self.same(places_of(board), tuple(place(board, setting) for setting in sorted(settings(board))))
            self.same(missed_places(board), tuple(p for p in sorted(found) if len(found[p]) == 0))
            self.same(shared_places(board), tuple(p for p in sorted(found) if len(found[p]) >= 2))
            self.assertEqual(missed_places(board) == shared_places(board) == (), is_one(board))
            for number in range(board[0]):
                self.same(settings_at(board, number), tuple(sorted(found[number])))

    def test_two_hundred(self):
        board = (200, ((100, 2), (2, 1)))
        self.same([missed_places(board), shared_places(board), settings_at(board, 199)], [(), (), ((99, 1),)])
        self.same(missed_places((200, ())), tuple(range(1, 200)))
        self.same(shared_places((1, ((200, 0),))), (0,))

    def test_place_is_checked(self):
        for wrong in NO_NUMBERS + (12, 13):
            self.refuses("place", settings_at, CLOCK, wrong)
        self.refuses("place", settings_at, NONE, 1)
