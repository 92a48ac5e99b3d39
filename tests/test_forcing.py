"""Points [57] and [58]: forcing and turning."""

import itertools

from tests.common import NO_NUMBERS, NO_TUPLES, NONE, Case, boards_with
from tests.reference import all_orders, forced, forced_class as class_by_words, order_depth, tied, ties, turned_orders
from tests.test_ties import GREAT, RING, SEVEN, SMALL, TRIO, some_ranges
from wheelwritten.errors import NoOrder
from wheelwritten.forcing import chain_of, forced_by, forced_class, lets_chain
from wheelwritten.laying import is_numbering
from wheelwritten.reaching import reach_of
from wheelwritten.turning import lets_turned, tied_board, turned_ties

CHAIN = ((0, 1), (2, 1), (2, 3), (4, 3), (4, 0), (1, 0))
ALL = SMALL + tuple(some_ranges(80, 5))


def tied_pairs(ranges):
    return sorted(ties(ranges) + [(j, i) for i, j in ties(ranges)])


class Forcing(Case):

    def test_examples(self):
        self.same((forced_by(RING, (0, 1)), forced_class(TRIO, (1, 0))), (((0, 4), (2, 1)), ((1, 0), (1, 2))))
        self.same(lets_chain(RING, CHAIN), 6)

    def test_by_name(self):
        self.same([forced_by(ranges=TRIO, pair=(0, 1)), forced_class(ranges=TRIO, pair=(0, 1)), chain_of(ranges=()), lets_chain(ranges=RING, thing=CHAIN)],
                  [((2, 1),), ((0, 1), (2, 1)), None, 6])

    def test_all(self):
        for ranges in ALL:
            for pair in tied_pairs(ranges):
                self.same(forced_by(ranges, pair), tuple(sorted(forced(ranges, *pair))))
                self.same(forced_class(ranges, pair), tuple(sorted(class_by_words(ranges, pair))))

    def test_chains(self):
        found = set()
        for ranges in ALL:
            has_chain = any(pair[::-1] in class_by_words(ranges, pair) for pair in tied_pairs(ranges))
            chain = chain_of(ranges)
            found.add(has_chain)
            if not has_chain:
                self.assertIsNone(chain)
                continue
            self.check_chain(ranges, chain)
            self.same(lets_chain(ranges, chain), len(chain))
        self.assertEqual(found, {True, False})
        self.same([chain_of(GREAT), chain_of((2,) * 8), chain_of(TRIO)], [None, None, None])

    def check_chain(self, ranges, chain):
        self.assertIs(type(chain), tuple)
        self.assertTrue(len(chain) > 1 and all(type(pair) is tuple for pair in chain))
        for k, pair in enumerate(chain):
            self.assertTrue(all(type(dial) is int for dial in pair) and tied(ranges, *pair))
            self.assertTrue(k == 0 or pair in forced(ranges, *chain[k - 1]))
        self.assertEqual(chain[-1], chain[0][::-1])

    def test_lets_chain_by_all_rows(self):
        for ranges in (TRIO, RING, (6, 10, 15), (2, 2, 3)):
            pairs = list(itertools.permutations(range(len(ranges)), 2))
            for row in itertools.chain(itertools.product(pairs, repeat=2), list(itertools.product(pairs, repeat=3))[::7]):
                self.check_verdict(ranges, row)
        for k in range(len(CHAIN)):
            for pair in itertools.permutations(range(5), 2):
                self.check_verdict(RING, CHAIN[:k] + (pair,) + CHAIN[k + 1:])
            self.check_verdict(RING, CHAIN[:k] + CHAIN[k + 1:])
            self.check_verdict(RING, CHAIN[k:] + CHAIN[:k])

    def check_verdict(self, ranges, row):
        for k, pair in enumerate(row):
            if not tied(ranges, *pair):
                return self.rejects("pair", k, lets_chain, ranges, row)
            if k and pair not in forced(ranges, *row[k - 1]):
                return self.rejects("forced", k, lets_chain, ranges, row)
        if row[-1] != row[0][::-1]:
            return self.rejects("about", -1, lets_chain, ranges, row)
        return self.same(lets_chain(ranges, row), len(row))

    def test_lets_chain_rejects(self):
        for thing in NO_TUPLES + ((), ((0, 1),), [(0, 1), (1, 0)], "ab"):
            self.rejects("shape", -1, lets_chain, RING, thing)
        for wrong in NO_TUPLES + ((), (0,), (0, 1, 2), [0, 1], (0, 0), (0, 2), (0, 5), (5, 0), (0, True), (False, 1), (0, -1), (None, 1)):
            self.rejects("pair", 0, lets_chain, RING, (wrong, wrong))
            self.rejects("pair", 1, lets_chain, RING, (CHAIN[0], wrong))
            self.rejects("pair", 2, lets_chain, RING, CHAIN[:2] + (wrong, wrong))
        self.rejects("forced", 1, lets_chain, RING, ((0, 1), (1, 0)))
        self.rejects("forced", 2, lets_chain, RING, ((0, 1), (2, 1), (1, 0)))
        self.rejects("about", -1, lets_chain, RING, ((0, 1), (2, 1)))
        self.rejects("about", -1, lets_chain, RING, ((0, 1), (2, 1), (0, 1)))

    def test_checked(self):
        for wrong in NO_TUPLES + ((), (0,), (0, 1, 2), [0, 1], (0, 0), (0, 2), (2, 0), (0, 3), (3, 0), (True, 0), (0, True), (False, 1), (1, False), (-1, 0), (1, -1), "01"):
            self.refuses("pair", forced_by, TRIO, wrong)
            self.refuses("pair", forced_class, TRIO, wrong)
        self.refuses("pair", forced_by, (), ())


class Turning(Case):

    def test_by_name(self):
        self.same([turned_ties(ranges=()), tied_board(ranges=()), lets_turned(ranges=(), thing=()), lets_turned((2, 3), ((), ()))], [(), NONE, 0, 0])

    def test_all(self):
        for ranges in ALL:
            if chain_of(ranges) is None:
                order = turned_ties(ranges)
                self.same(lets_turned(ranges, order), order_depth(order))
                if len(ties(ranges)) < 9:
                    self.assertIn(order, turned_orders(ranges))
                board = tied_board(ranges)
                self.assertTrue(is_numbering(board))
                reach = reach_of(board)
                self.same(tuple(many for many, _ in board[1]), ranges)
                self.assertEqual([(i, j) for i, j in itertools.combinations(range(len(ranges)), 2) if i in reach[j] or j in reach[i]], ties(ranges))
                continue
            if len(ties(ranges)) < 9:
                self.assertEqual(turned_orders(ranges), [])
            for function in (turned_ties, tied_board):
                with self.assertRaises(NoOrder) as caught:
                    function(ranges)
                self.same(lets_chain(ranges, caught.exception.chain), len(caught.exception.chain))

    def test_no_order(self):
        for ranges in (RING, SEVEN):
            self.assertRaises(NoOrder, turned_ties, ranges)

    def test_no_numbering_with_tied_comparable_dials_alone(self):
        """Where there is such a numbering, and only there, tied_board finds one: all numberings of small wheels."""
        for ranges in ((2, 3), (2, 2), (2, 3, 2), (2, 6, 3)[:2]):
            found = [board for board in boards_with(ranges[0] * ranges[1] * (ranges + (1,))[2], ranges) if is_numbering(board)]
            pairs = ties(ranges)
            wanted = [board for board in found if all(((i, j) in pairs) == (i in reach_of(board)[j] or j in reach_of(board)[i])
                                                      for i, j in itertools.combinations(range(len(ranges)), 2))]
            self.assertIn(tied_board(ranges), wanted)

    def test_lets_turned(self):
        for ranges in (TRIO, (2, 2, 3), (2, 3, 5), (2, 2, 2), (6, 10, 15), (2, 3, 2, 3), (2, 6, 3, 5)):
            for order in all_orders(len(ranges)):
                wrong = [(i, j) for i, j in itertools.combinations(range(len(ranges)), 2)
                         if tied(ranges, i, j) != (i in order[j] or j in order[i])]
                if wrong:
                    self.rejects("tie", wrong[0], lets_turned, ranges, order)
                else:
                    self.same(lets_turned(ranges, order), order_depth(order))

    def test_lets_turned_rejects(self):
        for thing in NO_TUPLES + ((), ((), ()), [(), (), ()], ((), (), (), ())):
            self.rejects("shape", -1, lets_turned, TRIO, thing)
        for wrong in NO_TUPLES + ((3,), (1, 0), (True,), (None,)):
            self.rejects("set", 1, lets_turned, TRIO, ((), wrong, (0,)))
        self.rejects("self", 2, lets_turned, TRIO, ((), (0,), (2,)))
        self.rejects("below", (2, 1, 0), lets_turned, TRIO, ((), (0,), (1,)))
        self.rejects("tie", (0, 1), lets_turned, TRIO, ((), (), ()))
        self.rejects("tie", (0, 2), lets_turned, TRIO, ((), (0,), (0, 1)))
        self.rejects("tie", (1, 2), lets_turned, TRIO, ((), (0,), ()))

    def test_no_number_is_a_dial_of_no_ranges(self):
        for wrong in NO_NUMBERS:
            self.refuses("pair", forced_by, RING, (wrong, 1))
            self.refuses("pair", forced_class, RING, (0, wrong))
