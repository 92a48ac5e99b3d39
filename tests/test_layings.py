"""Points [24] to [26]: layingchecker, layings, laidreach, and their consequences."""

import itertools
import types

from tests.common import (CLOCK, DIGITS, NO_NUMBERS, NO_TUPLES, NONE, ODD, RESTS, Case, great_numberings,
                          grown, small_boards, small_numberings)
from tests.reference import carries, hands, is_whole, reach, whole_layings
from wheelwritten.laidreach import always_ahead, laid_order, left_without
from wheelwritten.laying import is_numbering, laying_of
from wheelwritten.layingchecker import lets_laying
from wheelwritten.layings import all_layings, how_many_layings, laying_at, number_of_laying
from wheelwritten.reaching import above, below, reach_of


def handmade(board, thing):
    """What lets_laying has to say of a tuple of integers, by its list."""
    left, dials = board
    for k, dial in enumerate(thing):
        if type(dial) is not int or not 0 <= dial < len(dials) or dial in thing[:k]:
            return "dial", k
        size, weight = dials[dial]
        if not any(size * divisor == left and left % divisor == 0 and weight % divisor == 0
                   and all(weight % (divisor * n) or left % (divisor * n) for n in range(2, left + 1))
                   for divisor in range(1, left + 1)):
            return "full", k
        left //= size
    if left != 1:
        return "rest", left
    lacking = [dial for dial in range(len(dials)) if dial not in thing]
    return ("left", lacking[0]) if lacking else None


class LayingChecker(Case):

    def test_example(self):
        self.rejects("full", 0, lets_laying, CLOCK, (2, 0, 1))
        self.same(lets_laying(CLOCK, (1, 0, 2)), True)
        self.same(lets_laying(board=NONE, thing=()), True)

    def test_shape(self):
        for thing in NO_TUPLES + ("012", [0, 1, 2]):
            self.rejects("shape", -1, lets_laying, CLOCK, thing)

    def test_dial(self):
        for wrong in NO_NUMBERS + (3, 4, 0):
            self.rejects("dial", 1, lets_laying, CLOCK, (0, wrong))
            self.rejects("dial", 1, lets_laying, CLOCK, (0, wrong, 2))
            self.rejects("dial", 2, lets_laying, CLOCK, (0, 1, wrong))
            self.rejects("dial", 3, lets_laying, CLOCK, (0, 1, 2, wrong, 7))
        for wrong in NO_NUMBERS + (3,):
            self.rejects("dial", 0, lets_laying, CLOCK, (wrong, 0, 1))
        self.rejects("dial", 1, lets_laying, CLOCK, (1, 1))
        self.rejects("dial", 0, lets_laying, CLOCK, (True, 0, 2))
        self.rejects("dial", 0, lets_laying, CLOCK, (False, 1, 2))

    def test_rest(self):
        self.rejects("rest", 12, lets_laying, CLOCK, ())
        self.rejects("rest", 6, lets_laying, CLOCK, (0,))
        self.rejects("rest", 2, lets_laying, CLOCK, (0, 1))
        self.rejects("rest", 3, lets_laying, (3, ()), ())
        self.rejects("rest", 10 ** 60, lets_laying, (10 ** 60, ((2, 0),)), ())

    def test_left(self):
        self.rejects("left", 0, lets_laying, (1, ((2, 0),)), ())
        self.rejects("left", 1, lets_laying, (2, ((2, 1), (2, 1), (2, 0))), (0,))
        self.rejects("left", 0, lets_laying, (2, ((2, 1), (2, 1), (2, 0))), (1,))
        self.rejects("left", 2, lets_laying, (6, ((2, 3), (3, 2), (2, 0), (2, 1))), (0, 1))

    def test_full_ahead_of_dial(self):
        self.rejects("full", 0, lets_laying, CLOCK, (2, 2))
        self.rejects("full", 1, lets_laying, CLOCK, (0, 2, None))
        self.rejects("full", 1, lets_laying, (2, ((2, 1), (2, 1))), (0, 1))

    def test_small_boards(self):
        for k, board in enumerate(small_boards()):
            if k % 3:
                continue
            size = len(board[1])
            for length in range(size + 2):
                for thing in itertools.product(range(size + 1), repeat=length):
                    wrong = handmade(board, thing)
                    if wrong is None:
                        self.same(lets_laying(board, thing), True)
                        self.assertTrue(is_numbering(board))
                    else:
                        self.rejects(wrong[0], wrong[1], lets_laying, board, thing)

    def test_great(self):
        for board in great_numberings():
            self.same(lets_laying(board, laying_of(board)[0]), True)
            self.rejects("dial", len(board[1]), lets_laying, board, laying_of(board)[0] + (0,) * 4000)


class Layings(Case):

    def test_examples(self):
        self.same([list(all_layings(CLOCK)), laying_at(CLOCK, 1), number_of_laying(ODD, (0, 1, 2))],
                  [[(0, 1, 2), (1, 0, 2)], (1, 0, 2), 0])

    def test_by_name(self):
        self.same([list(all_layings(numbering=NONE)), how_many_layings(numbering=NONE), laying_at(numbering=NONE, place=0),
                   number_of_laying(numbering=NONE, laying=())], [[()], 1, (), 0])

    def test_small_numberings(self):
        for board in small_numberings():
            self.compare(board)

    def compare(self, board):
        wanted = whole_layings(board)
        self.assertIsInstance(all_layings(board), types.GeneratorType)
        self.same(list(all_layings(board)), wanted)
        self.same(how_many_layings(board), len(wanted))
        for k, laying in enumerate(wanted):
            self.same(laying_at(board, k), laying)
            self.same(number_of_laying(board, laying), k)
        self.refuses("place", laying_at, board, len(wanted))

    def test_six_dials(self):
        free = (2 * 3 * 5 * 7 * 11 * 13, tuple((p, 30030 // p) for p in (2, 3, 5, 7, 11, 13)))
        self.same([how_many_layings(free), laying_at(free, 719), number_of_laying(free, (5, 4, 3, 2, 1, 0))],
                  [720, (5, 4, 3, 2, 1, 0), 719])
        self.same(list(all_layings(free)), list(itertools.permutations(range(6))))
        for seed in range(3):
            self.compare(grown((2, 3, 2, 3, 5, 2), seed))
            self.compare(grown((10 ** 9, 7 ** 5, 10 ** 12, 11 ** 6, 13, 2 ** 30), seed))

    def test_checked(self):
        for place in NO_NUMBERS + (2, 3, 10 ** 60):
            self.refuses("place", laying_at, CLOCK, place)
        self.refuses("place", laying_at, NONE, 1)
        for laying in NO_TUPLES + ((), (0,), (0, 1), (0, 2, 1), (2, 0, 1), (0, 1, 1), (0, 1, 2, 2), (0, 1, 3), [0, 1, 2], (False, 1, 2),
                                   (0, True, 2), (0, 1, None)):
            self.refuses("laying", number_of_laying, CLOCK, laying)
        self.refuses("laying", number_of_laying, NONE, (0,))


class LaidReach(Case):

    def test_examples(self):
        self.same([left_without(CLOCK, 0), left_without(CLOCK, 2), left_without(DIGITS, 2)], [(2,), (), (0, 1)])
        self.same([laid_order(CLOCK), laid_order(ODD)], [((), (), (0, 1)), ((), (0,), (0, 1))])

    def test_by_name(self):
        self.same([left_without(numbering=RESTS, dial=0), always_ahead(numbering=RESTS, dial=0), laid_order(numbering=NONE)],
                  [(), (), ()])

    def test_small_numberings(self):
        for board in small_numberings():
            size = len(board[1])
            layings = whole_layings(board)
            order = reach(hands(board, carries(board)))
            for dial in range(size):
                wanted = tuple(j for j in range(size) if all(row.index(j) < row.index(dial) for row in layings) and j != dial)
                self.same(always_ahead(board, dial), wanted)
                self.same(left_without(board, dial), tuple(i for i in range(size) if dial in order[i]))
            self.same(laid_order(board), order)

    def test_great_numberings(self):
        for board in great_numberings():
            self.same(laid_order(board), reach_of(board))
            for dial in range(len(board[1])):
                self.same(left_without(board, dial), above(board, dial))
                self.same(always_ahead(board, dial), below(board, dial))
            self.assertTrue(is_whole(board, laying_of(board)[0]))

    def test_checked(self):
        for dial in NO_NUMBERS + (3, 4):
            self.refuses("dial", left_without, CLOCK, dial)
            self.refuses("dial", always_ahead, CLOCK, dial)
        self.refuses("dial", left_without, NONE, 0)
        self.refuses("dial", always_ahead, NONE, 0)
