"""Points [33] to [35]: writing, carrying, reaching."""

import math

from tests.common import (CLOCK, DIGITS, NO_NUMBERS, NO_TUPLES, NONE, ODD, RESTS, Case, great_numberings, grown, place,
                          small_numberings, some_places)
from tests.reference import carries, hands, heights, reach, written_in
from wheelwritten.carrying import carries_of, carry_of, handing_dials, hands_to, is_handing
from wheelwritten.laidreach import laid_order
from wheelwritten.reaching import (above, below, depth_of, heights_of, lets_row_down, longest_row, reach_of, span_of,
                                   spans_of)
from wheelwritten.writing import all_written, figure_at, setting_of


def is_setting_tuple(board, thing):
    return type(thing) is tuple and len(thing) == len(board[1]) and \
        all(type(figure) is int and 0 <= figure < many for figure, (many, _) in zip(thing, board[1]))


class Writing(Case):

    def test_examples(self):
        self.same([setting_of(CLOCK, 11), figure_at(ODD, 9, 1), all_written(RESTS)],
                  [(1, 1, 1), 2, ((0, 0), (1, 2), (0, 1), (1, 0), (0, 2), (1, 1))])

    def test_by_name(self):
        self.same([setting_of(numbering=NONE, place=0), figure_at(numbering=CLOCK, place=11, dial=1), all_written(numbering=NONE)],
                  [(), 1, ((),)])

    def test_small_numberings(self):
        for board in small_numberings():
            wanted = written_in(board)
            self.same(all_written(board), tuple(wanted))
            for number, setting in enumerate(wanted):
                self.same(setting_of(board, number), setting)
                if number % 3 == 0:
                    for dial, figure in enumerate(setting):
                        self.same(figure_at(board, number, dial), figure)

    def test_two_hundred(self):
        board = grown((5, 2, 5, 4), 3)
        self.same(all_written(board), tuple(written_in(board)))

    def test_great_numberings(self):
        for board in great_numberings():
            for number in some_places(board, 12) + [0, 1, board[0] - 1]:
                number %= board[0]
                setting = setting_of(board, number)
                self.assertTrue(is_setting_tuple(board, setting))
                self.assertEqual(place(board, setting), number)
                self.same(figure_at(board, number, len(board[1]) - 1), setting[-1])

    def test_checked(self):
        for number in NO_NUMBERS + (12, 13, 10 ** 60):
            self.refuses("place", setting_of, CLOCK, number)
            for dial in (0, 3, None):
                self.refuses("place", figure_at, CLOCK, number, dial)
        for dial in NO_NUMBERS + (3, 4):
            self.refuses("dial", figure_at, CLOCK, 11, dial)
        self.refuses("place", setting_of, NONE, 1)
        self.refuses("dial", figure_at, NONE, 0, 0)


class Carrying(Case):

    def test_examples(self):
        self.same([carries_of(ODD), hands_to(DIGITS, 0)], [((0, 0, 0), (1, 0, 0), (1, 2, 0)), (1,)])
        self.same([carry_of(CLOCK, 2), hands_to(CLOCK, 2), handing_dials(CLOCK)], [(1, 2, 0), (0, 1), (2,)])

    def test_by_name(self):
        self.same([carry_of(numbering=ODD, dial=1), carries_of(numbering=NONE), hands_to(numbering=ODD, dial=1),
                   is_handing(numbering=ODD, dial=1), handing_dials(numbering=NONE)], [(1, 0, 0), (), (0,), True, ()])

    def compare(self, board, all_carries):
        lists = hands(board, all_carries)
        self.same(carries_of(board), tuple(all_carries))
        for dial, carry in enumerate(all_carries):
            self.same(carry_of(board, dial), carry)
            self.same(hands_to(board, dial), tuple(lists[dial]))
            self.same(is_handing(board, dial), lists[dial] != [])
        self.same(handing_dials(board), tuple(dial for dial, row in enumerate(lists) if row))

    def test_small_numberings(self):
        for board in small_numberings():
            self.compare(board, carries(board))

    def test_great_numberings(self):
        for board in great_numberings():
            found = [carry_of(board, dial) for dial in range(len(board[1]))]
            for carry, (many, weight) in zip(found, board[1]):
                self.assertTrue(is_setting_tuple(board, carry))
                self.assertEqual(place(board, carry), many * weight % board[0])
            self.compare(board, found)

    def test_checked(self):
        for function in (carry_of, hands_to, is_handing):
            for dial in NO_NUMBERS + (3, 4):
                self.refuses("dial", function, CLOCK, dial)
            self.refuses("dial", function, NONE, 0)


class Reaching(Case):

    def test_examples(self):
        self.same([reach_of(DIGITS), above(DIGITS, 2), heights_of(ODD), longest_row(DIGITS)],
                  [((1, 2), (2,), ()), (0, 1), (2, 1, 0), (0, 1, 2)])
        self.same([spans_of(CLOCK), depth_of(CLOCK), spans_of(ODD), depth_of(ODD)], [(2, 3, 12), 1, (2, 6, 12), 2])

    def test_by_name(self):
        self.same([reach_of(numbering=RESTS), below(numbering=ODD, dial=1), above(numbering=ODD, dial=1),
                   span_of(numbering=ODD, dial=1), spans_of(numbering=RESTS), depth_of(numbering=RESTS),
                   heights_of(numbering=RESTS), lets_row_down(numbering=RESTS, thing=(1,))],
                  [((), ()), (0,), (2,), 6, (2, 3), 0, (0, 0), 0])

    def test_no_dials(self):
        self.same([reach_of(NONE), spans_of(NONE), depth_of(NONE), heights_of(NONE), longest_row(NONE), longest_row(numbering=NONE),
                   lets_row_down(NONE, ())], [(), (), 0, (), (), (), 0])

    def compare(self, board, all_carries):
        lists = hands(board, all_carries)
        order = reach(lists)
        steps = heights(order)
        depth = max(steps, default=0)
        size = len(board[1])
        self.same(reach_of(board), order)
        self.same(heights_of(board), steps)
        self.same(depth_of(board), depth)
        spans = tuple(math.prod([board[1][j][0] for j in order[i]] + [board[1][i][0]]) for i in range(size))
        self.same(spans_of(board), spans)
        for dial in range(size):
            self.same(below(board, dial), order[dial])
            self.same(above(board, dial), tuple(i for i in range(size) if dial in order[i]))
            self.same(span_of(board, dial), spans[dial])
        row = longest_row(board)
        self.assertIs(type(row), tuple)
        self.assertEqual(len(row), depth + 1 if size else 0)
        for dial in row:
            self.assertIs(type(dial), int)
        for one, other in zip(row, row[1:]):
            self.assertIn(other, lists[one])
        self.same(lets_row_down(board, row), depth)

    def test_small_numberings(self):
        for board in small_numberings():
            self.compare(board, carries(board))

    def test_great_numberings(self):
        depths = set()
        for board in great_numberings():
            self.compare(board, carries_of(board))
            self.same(laid_order(board), reach_of(board))
            depths.add(depth_of(board))
        self.assertTrue(max(depths) >= 4)

    def test_handing_is_not_all_of_reaching(self):
        self.same([hands_to(DIGITS, 0), below(DIGITS, 0), heights_of(DIGITS), depth_of(DIGITS)], [(1,), (1, 2), (0, 1, 2), 2])

    def test_checked(self):
        for function in (below, above, span_of):
            for dial in NO_NUMBERS + (3, 4):
                self.refuses("dial", function, CLOCK, dial)
            self.refuses("dial", function, NONE, 0)


class RowDown(Case):

    def test_example(self):
        self.rejects("hands", 1, lets_row_down, DIGITS, (0, 2))

    def test_shape(self):
        for thing in NO_TUPLES + ("01", [0, 1]):
            self.rejects("shape", -1, lets_row_down, DIGITS, thing)

    def test_dial(self):
        for wrong in NO_NUMBERS + (3, 4):
            self.rejects("dial", 0, lets_row_down, DIGITS, (wrong,))
            self.rejects("dial", 0, lets_row_down, DIGITS, (wrong, 0))
            self.rejects("dial", 1, lets_row_down, DIGITS, (0, wrong, 1))
            self.rejects("dial", 2, lets_row_down, DIGITS, (0, 1, wrong))
        self.rejects("dial", 0, lets_row_down, NONE, (0,))
        self.rejects("dial", 1, lets_row_down, DIGITS, (0, True))

    def test_hands(self):
        for thing, k in (((0, 0), 1), ((1, 0), 1), ((0, 1, 0), 2), ((0, 1, 1), 2), ((2, 1), 1), ((0, 1, 2, 2), 3), ((0, 2, None), 1)):
            self.rejects("hands", k, lets_row_down, DIGITS, thing)

    def test_accepted(self):
        self.same([lets_row_down(DIGITS, thing) for thing in ((), (0,), (2,), (0, 1), (1, 2), (0, 1, 2))], [0, 0, 0, 1, 1, 2])
        self.same([lets_row_down(CLOCK, (2, 0)), lets_row_down(CLOCK, (2, 1)), lets_row_down(ODD, (2, 0)), lets_row_down(ODD, (2, 1, 0))],
                  [1, 1, 1, 2])
