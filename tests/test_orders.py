"""Points [43] to [45]: orders, closings, straights, and their consequences."""

import itertools
import math

from tests.common import (CLOCK, DIGITS, NO_NUMBERS, NO_TUPLES, NONE, ODD, RESTS, Case, boards_with, great_numberings, is_one, mixer,
                          some_numberings)
from tests.reference import all_orders, carries, fits, hands, is_row_of_pairs, order_depth, reach, subsets, tied
from wheelwritten.carrying import carries_of
from wheelwritten.closings import closed_by, closed_sets, is_closed, product_on, set_of_product
from wheelwritten.errors import Ringed, Tied
from wheelwritten.laying import is_numbering
from wheelwritten.orders import (is_fitting, is_order, just_below, lets_order, order_of, spans_by, steps_in, turned_about)
from wheelwritten.reaching import reach_of, spans_of
from wheelwritten.straights import is_straight, multiplied_board, multipliers_of, straight_board, twin_of

FLAT = ((), (), ())
CHAIN = ((), (0,), (0, 1))
FORK = ((), (), (0, 1))
WRONG_ORDERS = NO_TUPLES + ((), ((), ()), ((), (), (), ()), [(), (), ()], ((), (), []), ((), (), None), ((), (), (3,)), ((), (), (1, 0)),
                            ((), (), (0, 0)), ((), (), (True,)), ((), (False,), (0, 1)), ((0,), (), ()), ((), (0,), (1,)), ((1,), (0,), ()),
                            ((), (), (2,)), ((), (), (-1,)), ((), (), 0))
GREAT_ORDERS = (
    ((), (0,), (0, 1), (0, 1, 2), (0, 1, 2, 3), (0, 1, 2, 3, 4), (0, 1, 2, 3, 4, 5), (0, 1, 2, 3, 4, 5, 6)),
    ((), (0,), (0, 1), (0, 1, 2), (0, 1, 2, 3, 6, 7), (0, 1, 2, 3, 4, 6, 7), (0, 1), (0, 1, 6)),
    ((1, 2, 3, 4, 5, 6, 7), (2, 3, 4, 5, 6, 7), (), (2,), (2, 3), (2, 3, 4), (2, 3, 4, 5), (2, 3, 4, 5, 6)),
)
GREAT_RANGES = ((10 ** 7, 12, 10 ** 8, 2 ** 20, 6, 3 ** 12, 10 ** 8, 10), (2,) * 8, (2 ** 24, 10 ** 7, 30, 6, 10 ** 7, 10 ** 8, 10 ** 8, 2 ** 10))


class Orders(Case):

    def test_small_sizes(self):
        for size in range(4):
            wanted = set(all_orders(size))
            for rows in itertools.product(sorted(subsets(range(size))), repeat=size):
                self.same(is_order(size, rows), rows in wanted)
                if rows in wanted:
                    self.same(lets_order(size, rows), sum(map(len, rows)))

    def test_by_name(self):
        self.same([is_order(size=0, thing=()), lets_order(size=0, thing=()), order_of(size=0, pairs=()), turned_about(size=0, order=()),
                   just_below(size=3, order=CHAIN, dial=2), steps_in(size=0, order=()), is_fitting(ranges=(), order=()), spans_by(ranges=(), order=())],
                  [True, 0, (), (), (1,), 0, True, ()])

    def test_shape(self):
        for thing in NO_TUPLES + ((), ((), ()), ((), (), (), ()), [(), (), ()], "abc"):
            self.rejects("shape", -1, lets_order, 3, thing)
            self.same(is_order(3, thing), False)
        for thing in NO_TUPLES + (((),), (None,)):
            self.rejects("shape", -1, lets_order, 0, thing)

    def test_sets_before_what_is_below(self):
        for k in range(3):
            ahead = ((1,), (0,), ())[:k]
            for wrong in NO_TUPLES + ((3,), (1, 0), (0, 0), (True,), (False,), (0, True), (-1,), (None,), ((0,),), [0]):
                self.rejects("set", k, lets_order, 3, ahead + (wrong,) + (None,) * (2 - k))
            for row in ((k,), (0, 1, 2)):
                self.rejects("self", k, lets_order, 3, ahead + (row,) + (None,) * (2 - k))
        self.rejects("set", 0, lets_order, 2, ((0, 5), (1,)))
        self.rejects("set", 2, lets_order, 3, ((1,), (0,), (7,)))

    def test_below(self):
        self.rejects("below", (0, 1, 0), lets_order, 2, ((1,), (0,)))
        self.rejects("below", (2, 1, 0), lets_order, 3, ((), (0,), (1,)))
        self.rejects("below", (0, 1, 2), lets_order, 4, ((1,), (2, 3), (3,), ()))
        self.rejects("below", (0, 1, 3), lets_order, 4, ((1, 2), (2, 3), (3,), ()))
        for rows in itertools.product(sorted(subsets(range(3))), repeat=3):
            gaps = [(i, j, k) for i, j, k in itertools.product(range(3), repeat=3) if j in rows[i] and k in rows[j] and k not in rows[i]]
            if gaps and all(i not in row for i, row in enumerate(rows)):
                self.rejects("below", gaps[0], lets_order, 3, rows)

    def test_many_dials(self):
        """A thing may be long: a tuple of a hundred sets."""
        self.same(lets_order(100, ((),) * 100), 0)
        rows = tuple(tuple(range(k)) for k in range(60))
        self.same(lets_order(60, rows), 60 * 59 // 2)
        self.rejects("shape", -1, lets_order, 10 ** 60, rows)

    def test_order_of(self):
        for size in range(4):
            pairs = list(itertools.product(range(size), repeat=2))
            for told in subsets(pairs):
                if len(told) < 5:
                    self.check_order_of(size, told)
        self.check_order_of(3, ((2, 1), (1, 0), (2, 1), (2, 1)))
        self.check_order_of(3, ((1, 0), (0, 2), (2, 1)))
        self.check_order_of(8, tuple((k, k + 1) for k in range(7)))
        self.check_order_of(8, tuple((k, (k + 3) % 8) for k in range(8)))
        below = mixer(4)
        for _ in range(200):
            self.check_order_of(8, tuple((below(8), below(8)) for _ in range(6)))
            self.check_order_of(8, tuple(tuple(sorted((below(8), below(7)))) for _ in range(9)))

    def check_order_of(self, size, told):
        wanted = reach([[j for i, j in told if i == dial] for dial in range(size)])
        if not any(dial in row for dial, row in enumerate(wanted)):
            self.same(order_of(size, told), wanted)
            return
        with self.assertRaises(Ringed) as caught:
            order_of(size, told)
        ring = caught.exception.ring
        self.assertIs(type(ring), tuple)
        self.assertTrue(ring and len(set(ring)) == len(ring) and all(type(dial) is int for dial in ring))
        self.assertTrue(is_row_of_pairs(ring, told))

    def test_order_of_checked(self):
        for wrong in NO_TUPLES + ((0, 1), ((0, 1, 2),), ((0,),), ([0, 1],), ((0, 3),), ((3, 0),), ((0, True),), ((False, 1),), ((0, -1),), ((0, None),),
                                  ((0, 1), None), "01"):
            self.refuses("pairs", order_of, 3, wrong)
        self.refuses("pairs", order_of, 0, ((0, 0),))

    def test_turned_steps_and_just_below(self):
        for size in range(5):
            for order in all_orders(size):
                turned = tuple(tuple(j for j in range(size) if i in order[j]) for i in range(size))
                self.same(turned_about(size, order), turned)
                self.same(steps_in(size, order), order_depth(order))
                for dial in range(size):
                    wanted = [j for j in order[dial] if not any(j in order[k] and k in order[dial] for k in range(size))]
                    self.same(just_below(size, order, dial), tuple(wanted))

    def test_great_orders(self):
        for order in GREAT_ORDERS:
            self.same(is_order(8, order), True)
            self.same(steps_in(8, order), order_depth(order))
            self.same(turned_about(8, turned_about(8, order)), order)
        self.same(just_below(8, GREAT_ORDERS[1], 4), (3, 7))

    def test_fitting_and_spans(self):
        for ranges in ((), (2,), (2, 3), (2, 2), (2, 3, 2), (6, 2, 5), (2, 3, 5), (4, 6, 9), (2, 3, 2, 5), (6, 10, 15, 7)):
            for order in all_orders(len(ranges)):
                self.same(is_fitting(ranges, order), fits(ranges, order))
                spans = [ranges[i] * math.prod(ranges[j] for j in row) for i, row in enumerate(order)]
                self.same(spans_by(ranges, order), tuple(spans))
        for order, ranges in zip(GREAT_ORDERS, GREAT_RANGES):
            self.same(is_fitting(ranges, order), fits(ranges, order))
            self.same(spans_by(ranges, order)[0], ranges[0] * math.prod(ranges[j] for j in order[0]))

    def test_checked(self):
        for wrong in WRONG_ORDERS:
            self.refuses("order", turned_about, 3, wrong)
            self.refuses("order", just_below, 3, wrong, None)
            self.refuses("order", steps_in, 3, wrong)
            self.refuses("order", is_fitting, (2, 3, 2), wrong)
            self.refuses("order", spans_by, (2, 3, 2), wrong)
        for wrong in NO_NUMBERS + (3, 4):
            self.refuses("dial", just_below, 3, FORK, wrong)
        self.refuses("order", spans_by, (), ((),))


class Closings(Case):

    def test_examples(self):
        self.same(closed_sets(CLOCK), ((), (0,), (0, 1), (0, 1, 2), (1,)))

    def test_by_name(self):
        self.same([is_closed(numbering=CLOCK, dials=(2,)), closed_by(numbering=CLOCK, dials=(2,)), closed_sets(numbering=NONE),
                   product_on(ranges=(2, 3, 2), dials=(0, 1)), set_of_product(numbering=CLOCK, many=6)], [False, (0, 1, 2), ((),), 6, (0, 1)])

    def compare(self, board, all_carries):
        ranges = [many for many, _ in board[1]]
        lists = hands(board, all_carries)
        closed = [part for part in subsets(range(len(ranges))) if all(j in part for i in part for j in lists[i])]
        self.same(closed_sets(board), tuple(sorted(closed)))
        products = {math.prod(ranges[i] for i in part): part for part in closed}
        self.assertEqual(len(products), len(closed))
        for part in subsets(range(len(ranges))):
            self.same(is_closed(board, part), part in closed)
            self.same(closed_by(board, part), min((wide for wide in closed if set(part) <= set(wide)), key=len))
            self.same(product_on(tuple(ranges), part), math.prod(ranges[i] for i in part))
        for product, part in products.items():
            self.same(set_of_product(board, product), part)
            self.same(set_of_product(board, product * 10 ** 9 + 1), None)
        return closed, products

    def test_small_numberings(self):
        for board in some_numberings(3):
            closed, products = self.compare(board, carries(board))
            for many in range(1, board[0] + 2):
                self.same(set_of_product(board, many), products.get(many))
            for one, other in itertools.combinations(closed, 2):
                both, either = tuple(sorted(set(one) & set(other))), tuple(sorted(set(one) | set(other)))
                self.assertTrue(both in closed and either in closed)
                product = {part: many for many, part in products.items()}
                self.assertEqual(product[both], math.gcd(product[one], product[other]))
                self.assertEqual(product[either], math.lcm(product[one], product[other]))

    def test_great_numberings(self):
        for board in great_numberings()[::2]:
            self.compare(board, carries_of(board))

    def test_checked(self):
        for wrong in NO_TUPLES + ((3,), (1, 0), (0, 0), (True,), (False,), (0, None), (-1,), [0]):
            self.refuses("dials", is_closed, CLOCK, wrong)
            self.refuses("dials", closed_by, CLOCK, wrong)
            self.refuses("dials", product_on, (2, 3, 2), wrong)
        for wrong in NO_NUMBERS + (0,):
            self.refuses("many", set_of_product, CLOCK, wrong)
        self.refuses("dials", is_closed, NONE, (0,))


class Straights(Case):

    def test_examples(self):
        self.same([multiplied_board((2, 3, 2), CHAIN, (1, 5, 1)) == ODD, multipliers_of(ODD)], [True, (1, 5, 1)])
        self.same([is_straight(CLOCK), is_straight(ODD), twin_of(ODD), straight_board((2, 3, 2), FORK)],
                  [True, False, (12, ((2, 6), (3, 2), (2, 1))), CLOCK])

    def test_by_name(self):
        self.same([straight_board(ranges=(), order=()), multiplied_board(ranges=(), order=(), multipliers=()), is_straight(numbering=NONE),
                   twin_of(numbering=NONE), multipliers_of(numbering=NONE)], [NONE, NONE, True, NONE, ()])

    def test_each_fitting_order_is_the_reach_of_one_straight_numbering(self):
        for ranges in ((), (2,), (2, 3), (3, 3), (2, 3, 2), (2, 3, 5), (4, 6, 9), (2, 5, 3, 2), (2, 3, 5, 7)):
            size, wheel = len(ranges), math.prod(ranges)
            for order in all_orders(size):
                if fits(ranges, order):
                    board = straight_board(ranges, order)
                    self.assertTrue(is_numbering(board))
                    self.same([board[0], tuple(many for many, _ in board[1]), reach_of(board)], [wheel, ranges, order])
                    self.same([is_straight(board), twin_of(board), multipliers_of(board)], [True, board, (1,) * size])
                else:
                    pair = min((i, j) for i, j in itertools.combinations(range(size), 2)
                               if tied(ranges, i, j) and i not in order[j] and j not in order[i])
                    fields = {"one": pair[0], "other": pair[1]}
                    self.raises(Tied, fields, straight_board, ranges, order)
                    self.raises(Tied, fields, multiplied_board, ranges, order, None)

    def test_each_numbering_has_its_multipliers(self):
        for board in some_numberings(2):
            ranges = tuple(many for many, _ in board[1])
            factors = multipliers_of(board)
            spans = spans_of(board)
            self.same(factors, tuple(weight * span // board[0] for (_, weight), span in zip(board[1], spans)))
            for (_, weight), span, factor in zip(board[1], spans, factors):
                self.assertEqual(board[0] // span * factor, weight)
            self.same(multiplied_board(ranges, reach_of(board), factors), board)
            self.same(is_straight(board), all(factor == 1 for factor in factors))
            self.same(twin_of(board), straight_board(ranges, reach_of(board)))
            self.same([reach_of(twin_of(board)), is_straight(twin_of(board))], [reach_of(board), True])

    def test_multipliers_within_an_order_make_all_numberings_within_it(self):
        for ranges in ((2, 3), (2, 2), (2, 3, 2)):
            size, wheel = len(ranges), math.prod(ranges)
            for order in all_orders(size):
                if fits(ranges, order):
                    spans = spans_by(ranges, order)
                    made = []
                    for factors in itertools.product(*[range(-1, span + 1) for span in spans]):
                        good = all(0 <= f < span and math.gcd(f, many) == 1 for f, span, many in zip(factors, spans, ranges))
                        if good:
                            made.append(multiplied_board(ranges, order, factors))
                        else:
                            self.refuses("multipliers", multiplied_board, ranges, order, factors)
                    wanted = [board for board in boards_with(wheel, ranges) if is_one(board)
                              and all(set(row) <= set(wide) for row, wide in zip(reach_of(board), order))]
                    self.assertEqual(sorted(made), sorted(wanted))

    def test_great_numberings(self):
        for board in great_numberings():
            ranges = tuple(many for many, _ in board[1])
            self.same(multiplied_board(ranges, reach_of(board), multipliers_of(board)), board)
            twin = twin_of(board)
            self.same([reach_of(twin), spans_of(twin), is_straight(twin), is_numbering(twin)], [reach_of(board), spans_of(board), True, True])
            self.same(twin, (board[0], tuple((many, board[0] // span) for (many, _), span in zip(board[1], spans_of(board)))))

    def test_checked(self):
        for wrong in WRONG_ORDERS:
            self.refuses("order", straight_board, (2, 3, 2), wrong)
            self.refuses("order", multiplied_board, (2, 3, 2), wrong, None)
        self.raises(Tied, {"one": 0, "other": 2}, multiplied_board, (2, 3, 2), FLAT, (1, 1, 1))
        self.raises(Tied, {"one": 1, "other": 2}, straight_board, (3, 2, 2), FLAT)
        for wrong in NO_TUPLES + ((), (1, 1), (1, 1, 1, 1), [1, 1, 1], (True, 1, 1), (1, 1, None), (1, "1", 1), (2, 1, 1), (0, 1, 1), (1, 3, 1),
                                  (1, 7, 1), (1, 1, 12), (1, 1, 13), (1, 1, 2), (-1, 1, 1), (1, 6, 1)):
            self.refuses("multipliers", multiplied_board, (2, 3, 2), CHAIN, wrong)
        self.refuses("multipliers", multiplied_board, (), (), (1,))

    def test_digits(self):
        self.same([is_straight(DIGITS), is_straight(RESTS), twin_of(DIGITS), multipliers_of(DIGITS)], [True, True, DIGITS, (1, 1, 1)])
