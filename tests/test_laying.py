"""Point [23]: laying, and its consequences."""

import itertools
import math

from tests.common import (BOTH, CLOCK, DIGITS, NO_NUMBERS, NONE, ODD, RESTS, SIX, Case, great_numberings, is_one,
                          small_boards)
from wheelwritten.laying import full_dials, is_full, is_numbering, laying_by, laying_of


def full_at(board, dial, many):
    size, weight = board[1][dial]
    return size * math.gcd(weight, many) == many


def laid(board, sequence):
    """The laying by definition."""
    left, taken = board[0], []
    while True:
        full = [dial for dial in sequence if dial not in taken and full_at(board, dial, left)]
        if not full:
            return tuple(taken), left
        taken.append(full[0])
        left //= board[1][full[0]][0]


class Laying(Case):

    def test_examples(self):
        self.same([full_dials(CLOCK, 12), full_dials(CLOCK, 2)], [(0, 1), (2,)])
        self.same([laying_of(CLOCK), laying_by(CLOCK, (1, 2, 0)), laying_of(DIGITS)],
                  [((0, 1, 2), 1), ((1, 0, 2), 1), ((2, 1, 0), 1)])
        self.same([laying_of((4, ((2, 2), (2, 2)))), laying_of((3, ())), laying_of((1, ((2, 0),)))],
                  [((0,), 2), ((), 3), ((), 1)])

    def test_by_name(self):
        self.same([is_full(board=CLOCK, dial=0, many=12), full_dials(board=CLOCK, many=12), laying_of(board=NONE),
                   laying_by(board=NONE, sequence=()), is_numbering(board=NONE)], [True, (0, 1), ((), 1), ((), 1), True])

    def test_full(self):
        for board in (CLOCK, ODD, RESTS, SIX, BOTH, NONE, (3, ()), (1, ((2, 0),)), (12, ((12, 5), (6, 2), (4, 0)))):
            for many in range(1, board[0] + 2):
                if board[0] % many:
                    self.refuses("many", full_dials, board, many)
                    continue
                full = [dial for dial in range(len(board[1])) if full_at(board, dial, many)]
                self.same(full_dials(board, many), tuple(full))
                for dial in range(len(board[1])):
                    self.same(is_full(board, dial, many), dial in full)

    def test_small_boards(self):
        for board in small_boards():
            size = len(board[1])
            self.same(laying_of(board), laid(board, range(size)))
            self.same(is_numbering(board), is_one(board))
            for sequence in itertools.permutations(range(size)):
                found = laying_by(board, sequence)
                self.same(found, laid(board, sequence))
                self.assertEqual(len(found[0]) == size and found[1] == 1, is_one(board))

    def test_what_is_left_may_hang_on_the_sequence(self):
        board = (4, ((2, 2), (4, 1)))
        self.same([laying_by(board, (0, 1)), laying_by(board, (1, 0))], [((0,), 2), ((1,), 1)])
        self.same(is_numbering(board), False)

    def test_great_boards(self):
        for wheel, dials in great_numberings():
            board = (wheel, dials)
            self.same(is_numbering(board), True)
            self.same(laying_of(board), laid(board, range(len(dials))))
            backwards = tuple(range(len(dials) - 1, -1, -1))
            self.same(laying_by(board, backwards), laid(board, backwards))
            self.same(is_numbering((wheel, dials[1:])), False)
            self.same(is_numbering((wheel, dials + ((2, 0),))), False)

    def test_checked(self):
        for dial in NO_NUMBERS + (3, 4):
            for many in (12, 0, None):
                self.refuses("dial", is_full, CLOCK, dial, many)
        for many in NO_NUMBERS + (0, 5, 8, 13, 24):
            self.refuses("many", is_full, CLOCK, 0, many)
            self.refuses("many", full_dials, CLOCK, many)
        for sequence in (None, True, 0, "012", [0, 1, 2], (), (0, 1), (0, 1, 1), (0, 1, 3), (0, 1, 2, 2), (0, True, 2), (-1, 0, 1)):
            self.refuses("sequence", laying_by, CLOCK, sequence)
        self.refuses("dial", is_full, NONE, 0, 1)
        self.refuses("sequence", laying_by, NONE, (0,))
