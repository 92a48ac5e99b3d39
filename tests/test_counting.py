"""Points [59] to [62]: counting, orderlists, numberinglists, rangeclasses."""

import itertools
import math

from tests.common import (BOTH, CLOCK, NO_NUMBERS, NO_TUPLES, NONE, ODD, RESTS, SIX, Case, boards_with)
from tests.reference import all_orders, fits, order_depth, tied
from tests.test_orders import WRONG_ORDERS
from wheelwritten.colouring import fewest_colours
from wheelwritten.counting import how_many_numberings, how_many_with, how_many_within
from wheelwritten.errors import Tied
from wheelwritten.laying import is_numbering
from wheelwritten.leastboards import fewest_handing, fewest_handing_within, least_depth
from wheelwritten.numberinglists import number_of, numbering_at, numberings_with
from wheelwritten.orderlists import fitting_orders, how_many_orders, orders_apart, wished_board
from wheelwritten.rangeclasses import Ranges
from wheelwritten.reaching import reach_of
from wheelwritten.straights import multipliers_of, straight_board

TRIED = ((), (2,), (5,), (2, 3), (3, 2), (2, 2), (4, 2), (4, 3), (2, 3, 2), (2, 2, 3), (2, 2, 2), (2, 3, 5), (6, 2, 2))
GREAT = (10 ** 6, 999983, 6, 35, 11, 13)


def numberings(ranges):
    """All numberings with these ranges, by their reach, then by their multipliers."""
    found = [board for board in boards_with(math.prod(ranges), ranges) if is_numbering(board)]
    return sorted(found, key=lambda board: (reach_of(board), multipliers_of(board)))


ALL = {ranges: numberings(ranges) for ranges in TRIED}


def units(many):
    return sum(math.gcd(number, many) == 1 for number in range(many))


def count_by_words(ranges, order):
    """The factor of (G11) for one order, its parts multiplied as fractions."""
    top, bottom = 1, 1
    for i, row in enumerate(order):
        top *= units(ranges[i]) * math.prod(ranges[j] for j in row)
        for j in row:
            if not any(j in order[k] for k in row) and not tied(ranges, i, j):
                top, bottom = top * (ranges[j] - 1), bottom * ranges[j]
    return top // bottom


class Counting(Case):

    def test_examples(self):
        self.same((how_many_within((2, 3), ((1,), ())), how_many_with((2, 3), ((1,), ()))), (6, 4))
        self.same((how_many_numberings((2, 3)), how_many_numberings((2, 3, 2))), (8, 112))

    def test_by_name(self):
        self.same([how_many_within(ranges=(), order=()), how_many_with(ranges=(), order=()), how_many_numberings(ranges=())], [1, 1, 1])

    def test_beside_all_numberings(self):
        for ranges, found in ALL.items():
            self.same(how_many_numberings(ranges), len(found))
            for order in all_orders(len(ranges)):
                if not fits(ranges, order):
                    pair = next((i, j) for i, j in itertools.combinations(range(len(ranges)), 2)
                                if tied(ranges, i, j) and i not in order[j] and j not in order[i])
                    for function in (how_many_within, how_many_with):
                        self.raises(Tied, {"one": pair[0], "other": pair[1]}, function, ranges, order)
                    continue
                self.same(how_many_with(ranges, order), sum(reach_of(board) == order for board in found))
                within = [board for board in found if all(set(row) <= set(wide) for row, wide in zip(reach_of(board), order))]
                self.same(how_many_within(ranges, order), len(within))

    def test_the_sum_of_the_guarantee(self):
        for ranges in TRIED + ((2, 3, 5, 7), (2, 2, 2, 2), (6, 10, 15, 7), (12, 5, 18, 25), (2, 3, 2, 3)):
            counts = [count_by_words(ranges, order) for order in all_orders(len(ranges)) if fits(ranges, order)]
            self.same(how_many_numberings(ranges), sum(counts))
            self.same([how_many_with(ranges, order) for order in fitting_orders(ranges)], counts)

    def test_six_dials(self):
        self.same(how_many_numberings((2,) * 6), math.factorial(6) * 2 ** 15)
        self.same(how_many_numberings((4, 3)), 4 * units(4) * units(3) + 3 * units(4) * units(3) - units(4) * units(3))
        self.same(how_many_numberings((999983,)), 999982)
        many = how_many_numberings(GREAT)
        self.same([how_many_numberings(GREAT[::-1]), how_many_numberings(GREAT[3:] + GREAT[:3])], [many, many])

    def test_great_orders(self):
        order = ((), (), (0,), (0, 1, 2), (), (0, 1, 2, 3, 4))
        self.same(how_many_with((10 ** 6, 999983, 6, 35, 11, 13), order), count_by_words((10 ** 6, 999983, 6, 35, 11, 13), order))

    def test_checked(self):
        for wrong in WRONG_ORDERS:
            self.refuses("order", how_many_within, (2, 3, 2), wrong)
            self.refuses("order", how_many_with, (2, 3, 2), wrong)


class OrderLists(Case):

    def test_examples(self):
        self.same(list(fitting_orders((2, 3))), [((), ()), ((), (0,)), ((1,), ())])
        self.same((list(orders_apart((2, 2), (), 0)), wished_board((2, 3, 2), ((0, 1),), None)), ([], (12, ((2, 6), (3, 4), (2, 3)))))

    def test_by_name(self):
        self.same([list(fitting_orders(ranges=())), how_many_orders(ranges=()), list(orders_apart(ranges=(), pairs=(), most=None)),
                   wished_board(ranges=(), pairs=(), most=0)], [[()], 1, [()], NONE])

    def test_fitting_orders(self):
        for ranges in TRIED + ((2, 3, 5, 7), (2, 2, 2, 2), (6, 10, 15, 7), (2, 3, 2, 5), (10 ** 20, 7, 10 ** 19, 3)):
            wanted = [order for order in all_orders(len(ranges)) if fits(ranges, order)]
            self.same(list(fitting_orders(ranges)), wanted)
            self.same(how_many_orders(ranges), len(wanted))
        self.same([how_many_orders((2, 3, 5, 7)), how_many_orders((2, 2, 2, 2))], [219, 24])

    def test_orders_apart(self):
        for ranges in ((2, 3), (2, 3, 5), (2, 3, 2), (2, 3, 5, 7)):
            size = len(ranges)
            wishes = [(), ((0, 1),), ((1, 0), (0, 1)), ((size - 1, 0),), tuple(itertools.combinations(range(size), 2))]
            for pairs, most in itertools.product(wishes, (None, 0, 1, 2, 3, 10 ** 60)):
                wanted = [order for order in all_orders(size) if fits(ranges, order)
                          and not any(i in order[j] or j in order[i] for i, j in pairs) and (most is None or order_depth(order) <= most)]
                self.same(list(orders_apart(ranges, pairs, most)), wanted)
                self.same(wished_board(ranges, pairs, most), straight_board(ranges, wanted[0]) if wanted else None)

    def test_checked(self):
        for wrong in NO_TUPLES + ((0, 1), ((0, 1, 2),), ((0,),), ([0, 1],), ((0, 0),), ((0, 3),), ((3, 0),), ((0, True),), ((False, 1),), ((0, -1),),
                                  ((0, None),), ((0, 1), None), "01", ((0, 1), (2, 2))):
            self.refuses("pairs", wished_board, (2, 3, 5), wrong, -1)
            begun = orders_apart((2, 3, 5), wrong, -1)
            self.refuses("pairs", next, begun)
        for wrong in NO_NUMBERS:
            if wrong is not None:
                self.refuses("most", wished_board, (2, 3, 5), (), wrong)
                begun = orders_apart((2, 3, 5), ((0, 1),), wrong)
                self.refuses("most", next, begun)


class NumberingLists(Case):

    def test_examples(self):
        self.same((numbering_at((2, 3), 3), number_of((6, ((2, 5), (3, 2))))), ((6, ((2, 3), (3, 5))), 6))

    def test_by_name(self):
        self.same([list(numberings_with(ranges=(), order=())), numbering_at(ranges=(), place=0), number_of(numbering=NONE)], [[NONE], NONE, 0])

    def test_all(self):
        for ranges, found in ALL.items():
            for order in all_orders(len(ranges)):
                if fits(ranges, order):
                    self.same(list(numberings_with(ranges, order)), [board for board in found if reach_of(board) == order])
            for place in range(0, len(found), 1 + len(found) // 60):
                self.same(numbering_at(ranges, place), found[place])
                self.same(number_of(found[place]), place)
            self.same(numbering_at(ranges, len(found) - 1), found[-1])
            self.same(number_of(found[-1]), len(found) - 1)

    def test_two_hundred(self):
        for ranges in ((2, 5, 4, 5), (8, 25), (3, 5, 13), (2, 3, 5, 6)):
            many = how_many_numberings(ranges)
            for place in (0, 1, many // 3, many // 2, many - 1):
                board = numbering_at(ranges, place)
                self.assertTrue(is_numbering(board))
                self.same(tuple(one for one, _ in board[1]), ranges)
                self.same(number_of(board), place)

    def test_checked(self):
        for wrong in WRONG_ORDERS:
            begun = numberings_with((2, 3, 2), wrong)
            self.refuses("order", next, begun)
        self.raises(Tied, {"one": 0, "other": 2}, next, numberings_with((2, 3, 2), ((), (), ())))
        for wrong in NO_NUMBERS + (112, 113, 10 ** 60):
            self.refuses("place", numbering_at, (2, 3, 2), wrong)
        self.refuses("place", numbering_at, (), 1)


class RangesObjects(Case):

    def test_examples(self):
        self.same(Ranges(30, 154, 3, 5, 7, 11).handing(most=1), 3)

    def test_as_the_functions(self):
        for ranges in ((), (2,), (2, 3), (2, 3, 2), (6, 2, 2), (2, 3, 5)):
            told = Ranges(*ranges)
            self.same([told.told(), told.wheel_now(), told.colours(), told.depth(), told.numberings(), told.orders(), told.handing()],
                      [ranges, math.prod(ranges), fewest_colours(ranges), least_depth(ranges), how_many_numberings(ranges),
                       how_many_orders(ranges), fewest_handing(ranges)])
            for most in (0, 1, 2, 10 ** 60):
                self.same([told.handing(most), told.handing(most=most)], [fewest_handing_within(ranges, most)] * 2)
            self.same(told.handing(None), fewest_handing(ranges))
            for place in range(0, told.numberings(), 1 + told.numberings() // 9):
                board = numbering_at(ranges, place)
                self.same([told.at_number(place), told.number(board)], [board, place])
            for order in fitting_orders(ranges):
                self.same(told.board_by(order), straight_board(ranges, order))

    def test_by_name(self):
        told = Ranges(2, 3)
        self.same([told.at_number(place=3), told.number(board=RESTS), told.board_by(order=((), (0,)))],
                  [(6, ((2, 3), (3, 5))), 0, (6, ((2, 3), (3, 1)))])

    def test_checked(self):
        for wrong in NO_NUMBERS + (0, 1):
            self.refuses("ranges", Ranges, wrong)
            self.refuses("ranges", Ranges, 2, wrong)
            self.refuses("ranges", Ranges, wrong, 2)
        self.refuses("ranges", Ranges, (2, 3))
        told = Ranges(2, 3, 2)
        for wrong in NO_NUMBERS:
            if wrong is not None:
                self.refuses("most", told.handing, wrong)
        for wrong in NO_NUMBERS + (112,):
            self.refuses("place", told.at_number, wrong)
        for wrong in NO_TUPLES + ((), RESTS, NONE, BOTH, SIX, (12, ((3, 4), (2, 6), (2, 1))), (12, ((2, 6), (3, 4), (2, 2))), [12, CLOCK[1]],
                                  (12, ((2, 6), (3, 4), (2, True))), (24, CLOCK[1]), (12, ((2, 6), (3, 4)))):
            self.refuses("board", told.number, wrong)
        for wrong in WRONG_ORDERS:
            self.refuses("order", told.board_by, wrong)
        self.raises(Tied, {"one": 0, "other": 2}, told.board_by, ((), (), ()))
        self.same(told.number(ODD), number_of(ODD))
