"""Points [36] and [37]: sums, rounds, worst, and their consequences."""

import itertools

from tests.common import (CLOCK, DIGITS, NO_INTEGERS, NO_NUMBERS, NO_TUPLES, NONE, ODD, RESTS, Case, great_numberings, mixer,
                          place, settings, small_numberings, some_numberings, some_settings)
from tests.reference import carries, hands, heights, one_round as round_by_words, reach, rounds, whole_layings, written_in
from wheelwritten.carrying import carries_of
from wheelwritten.laying import laying_by, laying_of
from wheelwritten.reaching import depth_of, heights_of
from wheelwritten.rounds import last_handing, one_round, rounds_of
from wheelwritten.sums import added, adding_steps, opposite, taken_off, times
from wheelwritten.worst import lets_worst, worst_pair
from wheelwritten.writing import setting_of

WRONG_SETTINGS = NO_TUPLES + ((), (0, 0), (0, 0, 0, 0), (2, 0, 0), (0, 3, 0), (0, 0, 2), (True, 0, 0), (0, False, 0), (0, 0, None),
                              (-1, 0, 0), [0, 0, 0])


def figure_sum(one, other):
    return tuple(a + b for a, b in zip(one, other))


def steps_by_words(board, all_carries, one, other, sequence):
    totals = figure_sum(one, other)
    rows = [totals]
    for dial in reversed(sequence):
        many = board[1][dial][0]
        new = list(totals)
        new[dial] = totals[dial] % many
        totals = tuple(now + totals[dial] // many * figure for now, figure in zip(new, all_carries[dial]))
        rows.append(totals)
    return tuple(rows)


class Sums(Case):

    def test_examples(self):
        self.same([added(DIGITS, (9, 9, 9), (1, 0, 0)), taken_off(ODD, (0, 0, 0), (0, 0, 1))], [(0, 0, 0), (0, 1, 1)])
        self.same(adding_steps(ODD, (0, 2, 1), (0, 0, 1), (0, 1, 2)), ((0, 2, 2), (1, 4, 0), (2, 1, 0), (0, 1, 0)))

    def test_by_name(self):
        self.same([added(numbering=NONE, one=(), other=()), taken_off(numbering=NONE, one=(), other=()),
                   opposite(numbering=NONE, setting=()), times(numbering=NONE, setting=(), many=5),
                   adding_steps(numbering=NONE, one=(), other=(), sequence=())], [(), (), (), (), ((),)])

    def test_small_numberings(self):
        for board in some_numberings(9):
            texts = written_in(board)
            wheel = board[0]
            for one, other in itertools.product(range(0, wheel, 1 + wheel // 13), range(wheel)):
                self.same(added(board, texts[one], texts[other]), texts[(one + other) % wheel])
                self.same(taken_off(board, texts[one], texts[other]), texts[(one - other) % wheel])
            for number in range(wheel):
                self.same(opposite(board, texts[number]), texts[-number % wheel])
                for many in (-wheel - 1, -2, -1, 0, 1, 2, 3, wheel, 10 ** 60, -10 ** 59 - 7):
                    self.same(times(board, texts[number], many), texts[number * many % wheel])

    def test_great_numberings(self):
        for board in great_numberings():
            wheel = board[0]
            one, other = some_settings(board, 2)
            for got, number in ((added(board, one, other), place(board, one) + place(board, other)),
                                (added(board, one, one), 2 * place(board, one)),
                                (taken_off(board, one, other), place(board, one) - place(board, other)),
                                (opposite(board, one), -place(board, one)),
                                (times(board, one, 10 ** 60 - 3), place(board, one) * (10 ** 60 - 3)),
                                (times(board, other, -10 ** 59), place(board, other) * -10 ** 59)):
                self.same(got, setting_of(board, number % wheel))
                self.assertEqual(place(board, got), number % wheel)

    def test_checked(self):
        good = (0, 0, 0)
        for wrong in WRONG_SETTINGS:
            for function in (added, taken_off):
                self.refuses("one", function, CLOCK, wrong, good)
                self.refuses("one", function, CLOCK, wrong, wrong)
                self.refuses("other", function, CLOCK, good, wrong)
            self.refuses("setting", opposite, CLOCK, wrong)
            self.refuses("setting", times, CLOCK, wrong, 2)
            self.refuses("setting", times, CLOCK, wrong, None)
            self.refuses("one", adding_steps, CLOCK, wrong, wrong, None)
            self.refuses("other", adding_steps, CLOCK, good, wrong, None)
            self.refuses("other", adding_steps, CLOCK, good, wrong, (0, 1, 2))
        for many in NO_INTEGERS:
            self.refuses("many", times, CLOCK, good, many)
        for sequence in NO_TUPLES + ((), (0, 1), (2, 1, 0), (0, 2, 1), (2, 0, 1), (0, 1, 2, 2), (0, 1, 1), (False, 1, 2), (0, 1, 3), [0, 1, 2]):
            self.refuses("sequence", adding_steps, CLOCK, good, good, sequence)
        self.refuses("sequence", adding_steps, ODD, good, good, (1, 0, 2))
        self.refuses("sequence", adding_steps, NONE, (), (), (0,))

    def test_steps(self):
        for board in some_numberings(17):
            all_carries = carries(board)
            below = mixer(5)
            for sequence in whole_layings(board):
                for one in settings(board)[::1 + board[0] // 7]:
                    other = settings(board)[below(board[0])]
                    steps = adding_steps(board, one, other, sequence)
                    self.same(steps, steps_by_words(board, all_carries, one, other, sequence))
                    self.same(steps[-1], added(board, one, other))
                    for totals in steps:
                        self.assertEqual(place(board, totals), place(board, steps[0]))

    def test_great_steps(self):
        for board in great_numberings():
            one, other = some_settings(board, 2, 3)
            for sequence in (laying_of(board)[0], laying_by(board, tuple(range(len(board[1])))[::-1])[0]):
                steps = adding_steps(board, one, other, sequence)
                self.same(steps, steps_by_words(board, carries_of(board), one, other, sequence))
                self.same(steps[-1], added(board, one, other))


class Rounds(Case):

    def test_examples(self):
        self.same([rounds_of(DIGITS, (10, 9, 9)), last_handing(DIGITS, (10, 9, 9))],
                  [((10, 9, 9), (0, 10, 9), (0, 0, 10), (0, 0, 0)), 2])

    def test_by_name(self):
        self.same([one_round(numbering=NONE, totals=()), rounds_of(numbering=NONE, totals=()),
                   last_handing(numbering=NONE, totals=())], [(), ((),), 0])

    def test_settings_are_not_changed(self):
        for board in (CLOCK, ODD, RESTS, DIGITS, NONE):
            for setting in settings(board):
                self.same([one_round(board, setting), rounds_of(board, setting), last_handing(board, setting)],
                          [setting, (setting,), 0])

    def test_a_quotient_without_a_carry_is_not_handed(self):
        self.same([last_handing(RESTS, (5, 7)), rounds_of(RESTS, (5, 7))], [0, ((5, 7), (1, 1))])
        self.same([last_handing(CLOCK, (2, 3, 1)), last_handing(CLOCK, (0, 0, 2)), rounds_of(CLOCK, (1, 2, 2))],
                  [0, 1, ((1, 2, 2), (2, 4, 0), (0, 1, 0))])

    def compare(self, board, all_carries, totals):
        rows, last = rounds(board, all_carries, totals)
        self.same(one_round(board, totals), round_by_words(board, all_carries, totals))
        self.same(rounds_of(board, totals), rows)
        self.same(last_handing(board, totals), last)
        self.assertLessEqual(len(rows), depth_of(board) + 2)
        self.assertLessEqual(last, depth_of(board))
        for row in rows:
            self.assertEqual(place(board, row), place(board, totals))

    def test_small_numberings(self):
        for board in some_numberings(5):
            all_carries = carries(board)
            below = mixer(9)
            size = len(board[1])
            for bound in (2, 4, 13, 100, 10 ** 60):
                self.compare(board, all_carries, tuple(below(bound) for _ in range(size)))
            self.compare(board, all_carries, tuple(2 * many - 2 for many, _ in board[1]))
            self.compare(board, all_carries, tuple(many for many, _ in board[1]))

    def test_great_numberings(self):
        for board in great_numberings():
            below = mixer(2)
            for bound in (10, 10 ** 8, 10 ** 30, 10 ** 60):
                self.compare(board, carries_of(board), tuple(below(bound) for _ in board[1]))

    def test_a_dial_is_handed_nothing_behind_its_height(self):
        for board in some_numberings(11):
            all_carries = carries(board)
            below = mixer(4)
            for _ in range(5):
                rows = rounds_of(board, tuple(below(50) for _ in board[1]))
                for k, row in enumerate(rows):
                    for dial, height in enumerate(heights_of(board)):
                        handed = sum(row[i] // board[1][i][0] * all_carries[i][dial] for i in range(len(row)))
                        self.assertTrue(handed == 0 or k + 1 <= height)

    def test_checked(self):
        for function in (one_round, rounds_of, last_handing):
            for wrong in NO_TUPLES + ((), (0, 0), (0, 0, 0, 0), [0, 0, 0], "000"):
                self.refuses("totals", function, CLOCK, wrong)
            for wrong in NO_NUMBERS:
                for k in range(3):
                    self.refuses("totals", function, CLOCK, (0,) * k + (wrong,) + (5,) * (2 - k))
            self.refuses("totals", function, NONE, (0,))


class Worst(Case):

    def check_pair(self, board, all_carries, depth):
        pair = worst_pair(board)
        self.assertIs(type(pair), tuple)
        self.assertEqual(len(pair), 2)
        for setting in pair:
            self.assertIs(type(setting), tuple)
            self.assertEqual(len(setting), len(board[1]))
            self.assertTrue(all(type(f) is int and 0 <= f < many for f, (many, _) in zip(setting, board[1])))
        self.assertEqual(rounds(board, all_carries, figure_sum(*pair))[1], depth)
        self.same(lets_worst(board, pair), depth)
        self.same(last_handing(board, figure_sum(*pair)), depth)

    def test_no_dials(self):
        self.same([worst_pair(NONE), lets_worst(NONE, ((), ())), worst_pair(numbering=NONE), lets_worst(numbering=NONE, thing=((), ()))],
                  [((), ()), 0, ((), ()), 0])

    def test_small_numberings(self):
        for board in small_numberings():
            all_carries = carries(board)
            self.check_pair(board, all_carries, max(heights(reach(hands(board, all_carries))), default=0))

    def test_great_numberings(self):
        for board in great_numberings():
            self.check_pair(board, carries_of(board), depth_of(board))

    def test_the_depth_is_the_most(self):
        for board in (CLOCK, ODD, RESTS) + tuple(some_numberings(40)):
            all_carries = carries(board)
            most = 0
            for one, other in itertools.product(settings(board), repeat=2):
                last = rounds(board, all_carries, figure_sum(one, other))[1]
                most = max(most, last)
            self.same(depth_of(board), most)

    def test_lets_worst(self):
        for board in (CLOCK, ODD, RESTS):
            for one, other in itertools.product(settings(board), repeat=2):
                self.same(lets_worst(board, (one, other)), rounds(board, carries(board), figure_sum(one, other))[1])
        self.same(lets_worst(DIGITS, ((5, 9, 9), (5, 0, 0))), 2)

    def test_lets_worst_rejects(self):
        good = (0, 0, 0)
        for thing in NO_TUPLES + ((), (good,), (good, good, good), [good, good]):
            self.rejects("shape", -1, lets_worst, CLOCK, thing)
        for wrong in WRONG_SETTINGS:
            self.rejects("setting", 0, lets_worst, CLOCK, (wrong, good))
            self.rejects("setting", 0, lets_worst, CLOCK, (wrong, wrong))
            self.rejects("setting", 1, lets_worst, CLOCK, (good, wrong))
