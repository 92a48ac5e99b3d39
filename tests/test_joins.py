"""Points [63] to [65]: duals, crossing, mixing, and their consequences."""

import itertools
import math

from tests.common import CLOCK, NO_NUMBERS, NO_TUPLES, NONE, ODD, RESTS, Case, great_numberings, some_numberings
from tests.pairs import ODDS, PAIR, WRONG_OTHERS, great_pairs, ranges_of, same_ranges
from tests.reference import cross, joins, longest_join_row, reach
from wheelwritten.crossing import cross_table, joined_to, joins_of, lets_table
from wheelwritten.duals import dual_of, fewest_terms, lean_of, own_products
from wheelwritten.laying import is_numbering
from wheelwritten.mixing import come_by_joins, come_by_reach
from wheelwritten.orders import turned_about
from wheelwritten.reaching import depth_of, reach_of
from wheelwritten.straights import is_straight, multipliers_of, twin_of


def part_of_primes(many, other):
    """The part of many that is made of the primes that divide other."""
    part = 1
    while math.gcd(many, other) > 1:
        part, many = part * math.gcd(many, other), many // math.gcd(many, other)
    return part


def fewest_by_words(board):
    """How many pairs the guarantee (G9) names."""
    below, ranges, factors = reach_of(board), ranges_of(board), multipliers_of(board)
    count = 0
    for i, row in enumerate(below):
        for j in row:
            product = ranges[i] * ranges[j] * math.prod(ranges[k] for k in row if j in below[k])
            count += factors[i] % part_of_primes(product, ranges[j]) != 0
    return count


class Duals(Case):

    def test_examples(self):
        self.same([dual_of(CLOCK), dual_of(ODD), dual_of(RESTS)], [PAIR, ODDS, RESTS])

    def test_by_name(self):
        self.same([dual_of(numbering=NONE), lean_of(numbering=NONE), fewest_terms(numbering=NONE), own_products(numbering=CLOCK, other=PAIR)],
                  [NONE, NONE, 0, (6, 8, 6)])

    def check_dual(self, board):
        dual = dual_of(board)
        below, ranges = reach_of(board), ranges_of(board)
        weights = [math.prod(ranges[i] for i in range(len(ranges)) if i != j and j not in below[i]) for j in range(len(ranges))]
        self.same(dual, (board[0], tuple(zip(ranges, weights))))
        self.same([is_numbering(dual), is_straight(dual), reach_of(dual)], [True, True, turned_about(len(ranges), below)])
        self.same(joins_of(board, dual), tuple((i, j) for i, row in enumerate(below) for j in row))
        self.same(dual_of(dual), twin_of(board))
        self.same(longest_join_row(len(ranges), joins_of(board, dual)), depth_of(board))

    def test_duals(self):
        for board in some_numberings(4) + great_numberings():
            self.check_dual(board)

    def check_lean(self, board):
        """The partner is one, with as many joins as the guarantee tells, and depth many twists."""
        lean = lean_of(board)
        self.assertIs(type(lean), tuple)
        self.assertTrue(is_numbering(lean))
        self.same([lean[0], ranges_of(lean)], [board[0], ranges_of(board)])
        pairs = joins(board, lean)
        self.same([fewest_terms(board), len(pairs)], [fewest_by_words(board)] * 2)
        self.same(longest_join_row(len(board[1]), pairs), depth_of(board))
        return pairs

    def test_lean_beside_all_partners(self):
        boards = same_ranges(CLOCK)[::5] + same_ranges((6, ((2, 3), (3, 2)))) + same_ranges((8, ((2, 1), (2, 2), (2, 4))))[::7] \
            + same_ranges((12, ((4, 1), (3, 4)))) + same_ranges((15, ((3, 1), (5, 3))))[::3] + [ODD, (12, ((2, 2), (3, 4), (2, 3))), (12, ((2, 3), (3, 8), (2, 10)))]
        for board in boards:
            best = None
            for other in same_ranges(board):
                pairs = joins(board, other)
                steps = longest_join_row(len(board[1]), pairs)
                if steps is not None:
                    self.assertGreaterEqual(steps, depth_of(board))
                    best = (len(pairs), steps) if best is None else min(best, (len(pairs), steps))
            pairs = self.check_lean(board)
            self.assertEqual(best, (len(pairs), longest_join_row(len(board[1]), pairs)))

    def test_lean_of_others(self):
        for board in some_numberings(3) + great_numberings():
            self.check_lean(board)

    def test_lean_has_fewer_joins_than_the_dual(self):
        """Dial 2 reaches dial 1 by way of dial 0, but its multiplier has the primes of dial 1 that a join would need."""
        board = (12, ((2, 2), (3, 4), (2, 3)))
        self.same([reach_of(board), multipliers_of(board)], [((1,), (), (0, 1)), (1, 1, 3)])
        self.same([joins(board, dual_of(board)), joins(board, lean_of(board)), fewest_terms(board)], [[(0, 1), (2, 0), (2, 1)], [(0, 1), (2, 0)], 2])

    def test_own_products(self):
        for board in some_numberings(23):
            for other in same_ranges(board)[::9] if board[0] < 13 else [board, dual_of(board)]:
                table = cross(board, other)
                self.same(own_products(board, other), tuple(table[dial][dial] for dial in range(len(table))))
        for board, other in great_pairs():
            self.same(own_products(board, other), tuple(a * b % board[0] for (_, a), (_, b) in zip(board[1], other[1])))

    def test_turns_of_own_products_are_the_ranges_of_partners(self):
        for board in some_numberings(9) + great_numberings():
            for other in (dual_of(board), lean_of(board)):
                self.same(tuple(board[0] // math.gcd(board[0], product) for product in own_products(board, other)), ranges_of(board))

    def test_checked(self):
        for wrong in WRONG_OTHERS:
            self.refuses("other", own_products, CLOCK, wrong)


class Crossing(Case):

    def test_examples(self):
        self.same(cross_table(CLOCK, PAIR), ((6, 0, 0), (0, 8, 0), (3, 2, 6)))
        self.same([joins_of(CLOCK, PAIR), joined_to(CLOCK, PAIR, 2), joined_to(CLOCK, PAIR, 0)], [((2, 0), (2, 1)), (0, 1), ()])

    def test_by_name(self):
        self.same([cross_table(numbering=NONE, other=NONE), joins_of(numbering=NONE, other=NONE), joined_to(numbering=CLOCK, other=PAIR, dial=2),
                   lets_table(numbering=NONE, other=NONE, thing=())], [(), (), (0, 1), 0])

    def compare(self, board, other):
        table, pairs = cross(board, other), joins(board, other)
        self.same([cross_table(board, other), joins_of(board, other)], [table, tuple(pairs)])
        for dial in range(len(table)):
            self.same(joined_to(board, other, dial), tuple(j for i, j in pairs if i == dial))
        self.same(lets_table(board, other, table), len(pairs))
        self.same(cross_table(other, board), tuple(zip(*table)))

    def test_small_numberings(self):
        for board in some_numberings(41):
            for other in same_ranges(board)[::5] if board[0] < 13 else [board, dual_of(board)]:
                self.compare(board, other)

    def test_great_numberings(self):
        for board, other in great_pairs():
            self.compare(board, other)

    def test_lets_table_rejects(self):
        table = cross(CLOCK, PAIR)
        for thing in NO_TUPLES + ((), table[:2], table + table[:1], list(table), (table[0], table[1], None), (table[0], list(table[1]), table[2]),
                                  (table[0], table[1][:2], table[2]), (table[0][:2], 5, table[2]), (table[0] + (0,), table[1], table[2]), "abc"):
            self.rejects("shape", -1, lets_table, CLOCK, PAIR, thing)
        self.rejects("shape", -1, lets_table, NONE, NONE, ((),))
        for i, j in itertools.product(range(3), repeat=2):
            for wrong in NO_NUMBERS + (table[i][j] + 1, table[i][j] + 12, table[i][j] - 12):
                rows = [list(row) for row in table]
                rows[i][j] = wrong
                for after in range(3 * i + j + 1, 9):
                    rows[after // 3][after % 3] = None
                self.rejects("product", (i, j), lets_table, CLOCK, PAIR, tuple(map(tuple, rows)))
        self.rejects("product", (0, 0), lets_table, (2, ((2, 1),)), (2, ((2, 1),)), ((True,),))

    def test_checked(self):
        for wrong in WRONG_OTHERS:
            for function in (cross_table, joins_of):
                self.refuses("other", function, CLOCK, wrong)
            self.refuses("other", joined_to, CLOCK, wrong, None)
            self.refuses("other", lets_table, CLOCK, wrong, None)
        for wrong in NO_NUMBERS + (3, 4):
            self.refuses("dial", joined_to, CLOCK, PAIR, wrong)
        self.refuses("dial", joined_to, NONE, NONE, 0)


class Mixing(Case):

    def test_examples(self):
        self.same(come_by_joins(ODD, ODDS), ((), (0,), (0, 1)))
        self.same([come_by_joins(CLOCK, CLOCK), come_by_reach(CLOCK, CLOCK)], [((0, 1, 2),) * 3] * 2)

    def test_by_name(self):
        self.same([come_by_joins(numbering=NONE, other=NONE), come_by_reach(numbering=NONE, other=NONE)], [(), ()])

    def compare(self, board, other):
        size = len(board[1])
        wanted = reach([[j for i, j in joins(board, other) if i == dial] for dial in range(size)])
        self.same([come_by_joins(board, other), come_by_reach(board, other)], [wanted, wanted])
        low, high = reach_of(board), reach_of(other)
        self.same(reach([[j for j in range(size) if j in low[i] or i in high[j]] for i in range(size)]), wanted)

    def test_small_numberings(self):
        for board in some_numberings(19):
            for other in same_ranges(board)[::3] if board[0] < 13 else [board, dual_of(board), lean_of(board)]:
                self.compare(board, other)

    def test_great_numberings(self):
        for board, other in great_pairs():
            self.compare(board, other)

    def test_checked(self):
        for wrong in WRONG_OTHERS:
            self.refuses("other", come_by_joins, CLOCK, wrong)
            self.refuses("other", come_by_reach, CLOCK, wrong)
