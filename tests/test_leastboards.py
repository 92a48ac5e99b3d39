"""Point [56]: leastboards."""

import itertools
import math

from tests.common import NO_NUMBERS, NONE, Case, boards_with, is_one
from tests.reference import carries, hands, most_untied as most_by_words, order_depth, reach, subsets, ties
from tests.test_ties import GREAT, PRISM, RING, SEVEN, SMALL, TRIO, some_ranges
from wheelwritten.carrying import handing_dials
from wheelwritten.colouring import fewest_colours
from wheelwritten.laying import is_numbering
from wheelwritten.leastboards import (fewest_handing, fewest_handing_within, least_depth, most_untied, quiet_board, quiet_within,
                                      shallow_board)
from wheelwritten.reaching import depth_of

MIX = (30, 154, 3, 5, 7, 11)
TRIED = ((), (2,), (6,), (2, 3), (2, 2), (4, 2), (2, 3, 2), (2, 2, 3), (2, 3, 5), (2, 2, 2))


def fewest_in_colourings(ranges, most):
    """All dials but the most of one colour in a colouring with at most most + 1 colours; None if there is none."""
    best = None
    for row in itertools.product(range(min(most + 1, len(ranges))), repeat=len(ranges)):
        if all(row[i] != row[j] for i, j in ties(ranges)):
            count = len(ranges) - max([row.count(colour) for colour in row], default=0)
            best = count if best is None else min(best, count)
    return best


class LeastBoards(Case):

    def test_examples(self):
        self.same((least_depth(MIX), most_untied(MIX), fewest_handing(MIX)), (1, (2, 3, 4, 5), 2))
        self.same((fewest_handing_within(MIX, 0), fewest_handing_within(MIX, 1)), (None, 3))

    def test_by_name(self):
        self.same([least_depth(ranges=()), shallow_board(ranges=()), most_untied(ranges=()), fewest_handing(ranges=()), quiet_board(ranges=()),
                   fewest_handing_within(ranges=(), most=0), quiet_within(ranges=(), most=0)], [0, NONE, (), 0, NONE, 0, NONE])

    def check_board(self, board, ranges):
        self.assertTrue(is_numbering(board))
        self.assertIs(type(board), tuple)
        self.same(tuple(many for many, _ in board[1]), ranges)

    def test_beside_all_numberings(self):
        for ranges in TRIED:
            found = []
            for board in boards_with(math.prod(ranges), ranges):
                if is_numbering(board):
                    lists = hands(board, carries(board))
                    found.append((order_depth(reach(lists)), sum(row != [] for row in lists)))
            self.same(least_depth(ranges), min(depth for depth, _ in found))
            self.same(fewest_handing(ranges), min(count for _, count in found))
            for most in range(4):
                wanted = min((count for depth, count in found if depth <= most), default=None)
                self.same(fewest_handing_within(ranges, most), wanted)

    def test_ranges_of_all_kinds(self):
        for ranges in SMALL + tuple(some_ranges(40, 12)):
            depth = least_depth(ranges)
            self.same(depth, max(fewest_colours(ranges) - 1, 0))
            board = shallow_board(ranges)
            self.check_board(board, ranges)
            self.same(depth_of(board), depth)
            untied = most_untied(ranges)
            self.assertIn(untied, subsets(range(len(ranges))))
            self.assertEqual(len(untied), most_by_words(ranges))
            self.assertFalse(set(itertools.combinations(untied, 2)) & set(ties(ranges)))
            self.same(fewest_handing(ranges), len(ranges) - len(untied))
            board = quiet_board(ranges)
            self.check_board(board, ranges)
            self.assertEqual(len(handing_dials(board)), fewest_handing(ranges))

    def test_within(self):
        for ranges in (MIX, RING, SEVEN[:6], PRISM, TRIO, (2,) * 5, (2, 3, 5, 7), (30, 2, 3, 5, 7), GREAT) + tuple(some_ranges(25, 13)):
            for most in (0, 1, 2, 3, len(ranges), 10 ** 60):
                if len(ranges) < 7:
                    self.same(fewest_handing_within(ranges, most), fewest_in_colourings(ranges, most))
                count = fewest_handing_within(ranges, most)
                board = quiet_within(ranges, most)
                if most < least_depth(ranges):
                    self.same([count, board], [None, None])
                    continue
                self.check_board(board, ranges)
                self.assertLessEqual(depth_of(board), most)
                self.assertEqual(len(handing_dials(board)), count)

    def test_checked(self):
        for wrong in NO_NUMBERS:
            self.refuses("most", fewest_handing_within, MIX, wrong)
            self.refuses("most", quiet_within, MIX, wrong)
        self.assertTrue(is_one(quiet_within((2, 3, 2), 1)))
