"""Points [46] to [49]: lots, lotjoining, lotlists, leveling, and their consequences."""

import itertools
import math

from tests.common import (CLOCK, DIGITS, NO_INTEGERS, NO_NUMBERS, NO_TUPLES, NONE, ODD, RESTS, Case, boards_with, great_numberings, is_one,
                          some_numberings)
from tests.reference import (carries, factorings, firm_by_words, hands, is_lot_by_words, levels_of_dial, lots_by_words, reach, subsets,
                             wheel_levels)
from wheelwritten.laying import is_numbering
from wheelwritten.leveling import level_classes, level_pairs, lot_by_pairs
from wheelwritten.lotjoining import joint_lot, least_lot, lot_turned, refines, section_lot, shared_lot
from wheelwritten.lotlists import all_lots, how_many_lots, lot_at, number_of_lot
from wheelwritten.lots import base_of, firm_of, is_lot, lets_lot, lot_board, lot_of
from wheelwritten.reaching import reach_of
from wheelwritten.straights import is_straight, twin_of

FIVE = (1, 2, 3, 6, 12)
WRONG_LOTS = NO_TUPLES + ((), (1,), (12,), [1, 12], (True, 12), (1, 12, 24), (12, 1), (1, 1, 12), (1, 5, 12), (1, 2, 3, 12), (1, 4, 6, 12),
                          (2, 12), (1, 6), (0, 1, 12), (-1, 1, 12), (1, None, 12), ((1, 12),))
GREAT_WHEEL = 2 ** 20 * 3 ** 20 * 10 ** 40
GREAT_LOT = (1, 2 ** 20, 3 ** 20, 6 ** 20, 2 ** 60, 2 ** 60 * 3 ** 20, GREAT_WHEEL)
WHEELS = (1, 2, 4, 6, 8, 12, 16, 18, 30)


def divisors(many):
    return [number for number in range(1, many + 1) if many % number == 0]


class Lots(Case):

    def test_examples(self):
        self.same([lot_of(CLOCK) == FIVE, firm_of(12, FIVE), base_of(12, FIVE, 12)], [True, (2, 3, 12), 6])
        self.same([lot_of(ODD), lot_of(DIGITS), lot_of(RESTS), lot_of(NONE)], [(1, 2, 6, 12), (1, 10, 100, 1000), (1, 2, 3, 6), (1,)])

    def test_by_name(self):
        self.same([is_lot(wheel=1, thing=(1,)), lets_lot(wheel=1, thing=(1,)), lot_of(numbering=NONE), firm_of(wheel=1, lot=(1,)),
                   base_of(wheel=2, lot=(1, 2), member=2), lot_board(wheel=1, lot=(1,))], [True, 0, (1,), (), 1, NONE])

    def test_all_sets_of_divisors(self):
        for wheel in WHEELS:
            for members in subsets(divisors(wheel)):
                wanted = is_lot_by_words(wheel, members)
                self.same(is_lot(wheel, members), wanted)
                if not wanted:
                    word, at = self.first_wrong(wheel, members)
                    self.rejects(word, at, lets_lot, wheel, members)
                    continue
                firm = firm_by_words(members)
                self.same([lets_lot(wheel, members), firm_of(wheel, members)], [len(firm), firm])
                for member in firm:
                    base = max(other for other in members if other < member and member % other == 0)
                    self.same(base_of(wheel, members, member), base)
                for member in members:
                    if member not in firm:
                        self.refuses("member", base_of, wheel, members, member)

    def first_wrong(self, wheel, members):
        if 1 not in members:
            return "one", 1
        if wheel not in members:
            return "wheel", wheel
        for a, b in itertools.combinations(members, 2):
            if math.gcd(a, b) not in members:
                return "gcd", (a, b)
            if math.lcm(a, b) not in members:
                return "lcm", (a, b)

    def test_rejects(self):
        for thing in NO_TUPLES + ([1, 12], (True, 12), (1, None, 12), ((1, 12),), (1, "2", 12), (1, False, 12), (1, 12, True)):
            self.rejects("shape", -1, lets_lot, 12, thing)
            self.same(is_lot(12, thing), False)
        for k in range(3):
            for wrong in (0, -1, 5, 8, 24, 10 ** 99, -10 ** 99) + ((1, 2, 2)[k - 1],) * (k > 0):
                self.rejects("member", k, lets_lot, 12, (1, 2, 12)[:k] + (wrong, 6, 5))
        self.rejects("member", 1, lets_lot, 12, (12, 1))
        self.rejects("one", 1, lets_lot, 12, ())
        self.rejects("one", 1, lets_lot, 12, (2, 3))
        self.rejects("wheel", 12, lets_lot, 12, (1, 2, 3))
        self.rejects("wheel", 12, lets_lot, 12, (1,))
        self.rejects("gcd", (4, 6), lets_lot, 12, (1, 4, 6, 12))
        self.rejects("lcm", (2, 3), lets_lot, 12, (1, 2, 3, 12))
        self.rejects("lcm", (2, 3), lets_lot, 60, (1, 2, 3, 4, 10, 60))
        self.rejects("gcd", (4, 6), lets_lot, 60, (1, 3, 4, 6, 12, 60))
        self.rejects("gcd", (4, 6), lets_lot, 60, (1, 4, 6, 60))

    def test_great_wheel(self):
        self.same([is_lot(GREAT_WHEEL, GREAT_LOT), lets_lot(GREAT_WHEEL, GREAT_LOT), firm_of(GREAT_WHEEL, GREAT_LOT)],
                  [True, 4, (2 ** 20, 3 ** 20, 2 ** 60, GREAT_WHEEL)])
        self.same([base_of(GREAT_WHEEL, GREAT_LOT, 2 ** 60), base_of(GREAT_WHEEL, GREAT_LOT, GREAT_WHEEL)], [2 ** 20, 2 ** 60 * 3 ** 20])
        board = lot_board(GREAT_WHEEL, GREAT_LOT)
        self.same(board, (GREAT_WHEEL, ((2 ** 20, 3 ** 20 * 10 ** 40), (3 ** 20, 2 ** 20 * 10 ** 40), (2 ** 40, 3 ** 20 * 5 ** 40), (5 ** 40, 1))))
        self.same([is_numbering(board), lot_of(board)], [True, GREAT_LOT])
        self.rejects("lcm", (3 ** 20, 2 ** 60), lets_lot, GREAT_WHEEL, tuple(member for member in sorted(GREAT_LOT) if member != 2 ** 60 * 3 ** 20))
        self.rejects("gcd", (6, 10 ** 59), lets_lot, 3 * 10 ** 59, (1, 6, 10 ** 59, 3 * 10 ** 59))

    def test_lots_of_numberings(self):
        for board in some_numberings(3):
            below = reach(hands(board, carries(board)))
            ranges = [many for many, _ in board[1]]
            closed = [part for part in subsets(range(len(ranges))) if all(set(below[i]) <= set(part) for i in part)]
            wanted = tuple(sorted(math.prod(ranges[i] for i in part) for part in closed))
            self.same(lot_of(board), wanted)
            self.same([is_lot(board[0], wanted), lot_of(twin_of(board))], [True, wanted])
            made = lot_board(board[0], wanted)
            self.same(lot_of(made), wanted)
            self.assertEqual(sorted(made[1]), sorted(twin_of(board)[1]))

    def test_boards_of_lots(self):
        for wheel in WHEELS:
            for lot in lots_by_words(wheel):
                board = lot_board(wheel, lot)
                self.same([is_numbering(board), is_straight(board), lot_of(board)], [True, True, lot])
                firm = firm_by_words(lot)
                self.same(len(board[1]), len(firm))
                for (many, weight), member in zip(board[1], firm):
                    base = max(other for other in lot if other < member and member % other == 0)
                    self.same((many, weight), (member // base, wheel // member))
                for member in lot:
                    self.assertEqual(member, math.prod(many for (many, _), one in zip(board[1], firm) if member % one == 0))

    def test_the_only_straight_numbering(self):
        """No other straight numbering, but for the sequence of its dials, has the lot."""
        for wheel in (4, 6, 8, 12):
            found = {}
            for ranges in factorings(wheel):
                for board in boards_with(wheel, ranges):
                    if is_one(board) and is_straight(board):
                        found.setdefault(lot_of(board), set()).add(tuple(sorted(board[1])))
            self.same(sorted(found), lots_by_words(wheel))
            for lot, boards in found.items():
                self.assertEqual(boards, {tuple(sorted(lot_board(wheel, lot)[1]))})

    def test_great_numberings(self):
        for board in great_numberings()[::3]:
            lot = lot_of(board)
            self.same([is_lot(board[0], lot), lot_of(twin_of(board)), lot_of(lot_board(board[0], lot))], [True, lot, lot])
            self.assertEqual(sorted(lot_board(board[0], lot)[1]), sorted(twin_of(board)[1]))

    def test_a_wider_reach_has_a_coarser_lot(self):
        boards = [board for board in boards_with(12, (2, 3, 2)) if is_one(board)][::3]
        for one, other in itertools.product(boards, repeat=2):
            if all(set(low) <= set(high) for low, high in zip(reach_of(one), reach_of(other))):
                self.same(refines(12, lot_of(one), lot_of(other)), True)

    def test_checked(self):
        for wrong in WRONG_LOTS:
            self.refuses("lot", firm_of, 12, wrong)
            self.refuses("lot", base_of, 12, wrong, None)
            self.refuses("lot", lot_board, 12, wrong)
        for wrong in NO_INTEGERS + (1, 0, -2, 6, 5, 4, 24):
            self.refuses("member", base_of, 12, FIVE, wrong)
        self.refuses("member", base_of, 1, (1,), 1)
        self.refuses("member", base_of, 1, (1,), True)


class Joining(Case):

    def test_examples(self):
        self.same([joint_lot(12, (1, 4, 12), (1, 6, 12)), section_lot(12, FIVE, 2, 12)], [(1, 2, 4, 6, 12), (1, 3, 6)])

    def test_by_name(self):
        self.same([least_lot(wheel=12, members=(4, 6)), joint_lot(wheel=1, lot=(1,), other=(1,)), shared_lot(wheel=1, lot=(1,), other=(1,)),
                   lot_turned(wheel=12, lot=FIVE), refines(wheel=1, lot=(1,), other=(1,)), section_lot(wheel=12, lot=FIVE, low=1, high=6)],
                  [(1, 2, 4, 6, 12), (1,), (1,), (1, 2, 4, 6, 12), True, (1, 2, 3, 6)])

    def test_least_lots(self):
        for wheel in WHEELS:
            lots = lots_by_words(wheel)
            for members in subsets(divisors(wheel)):
                wanted = min((lot for lot in lots if set(members) <= set(lot)), key=len)
                self.same(least_lot(wheel, members), wanted)

    def test_least_lots_of_a_million(self):
        for wheel, members in ((720720, (2, 3, 4, 5, 7, 8, 9, 11, 13, 16)), (10 ** 6, (8, 20, 125)), (510510, (6, 15, 35, 77, 143, 221))):
            self.same(least_lot(wheel, members), self.closure(wheel, members))
        self.same(least_lot(999983, ()), (1, 999983))
        self.same(joint_lot(10 ** 6, (1, 10, 10 ** 6), (1, 4, 10 ** 6)), (1, 2, 4, 10, 20, 10 ** 6))

    def closure(self, wheel, members):
        found = {1, wheel} | set(members)
        while True:
            more = found | {make(a, b) for a in found for b in found for make in (math.gcd, math.lcm)}
            if more == found:
                return tuple(sorted(found))
            found = more

    def test_pairs_of_lots(self):
        for wheel in (1, 4, 6, 12, 16, 30):
            lots = lots_by_words(wheel)
            for one, other in itertools.product(lots[::1 + len(lots) // 20], repeat=2):
                both = set(one) | set(other)
                self.same(joint_lot(wheel, one, other), min((lot for lot in lots if both <= set(lot)), key=len))
                self.same(shared_lot(wheel, one, other), tuple(sorted(set(one) & set(other))))
                self.same(refines(wheel, one, other), set(other) <= set(one))

    def test_turned_and_sections(self):
        for wheel in (1, 2, 6, 12, 16, 30):
            for lot in lots_by_words(wheel):
                self.same(lot_turned(wheel, lot), tuple(sorted(wheel // member for member in lot)))
                self.same(is_lot(wheel, lot_turned(wheel, lot)), True)
                for low, high in itertools.product(lot, repeat=2):
                    if high % low:
                        self.refuses("high", section_lot, wheel, lot, low, high)
                        continue
                    wanted = tuple(sorted(m // low for m in lot if m % low == 0 and high % m == 0))
                    self.same(section_lot(wheel, lot, low, high), wanted)
                    self.same(is_lot(high // low, wanted), True)

    def test_great_wheel(self):
        other = (1, 2 ** 20, 2 ** 60, GREAT_WHEEL)
        self.same([shared_lot(GREAT_WHEEL, GREAT_LOT, other), refines(GREAT_WHEEL, GREAT_LOT, other), refines(GREAT_WHEEL, other, GREAT_LOT)],
                  [other, True, False])
        self.same(lot_turned(GREAT_WHEEL, other), (1, 3 ** 20 * 5 ** 40, 2 ** 40 * 3 ** 20 * 5 ** 40, GREAT_WHEEL))
        self.same(section_lot(GREAT_WHEEL, GREAT_LOT, 2 ** 20, 2 ** 60 * 3 ** 20), (1, 3 ** 20, 2 ** 40, 2 ** 40 * 3 ** 20))

    def test_checked(self):
        for wrong in NO_TUPLES + (NO_NUMBERS[0], (0,), (5,), (24,), (2, 1), (1, 1), (True,), (None,), [1], (1, -2), (1, "2")):
            self.refuses("members", least_lot, 12, wrong)
        for wrong in WRONG_LOTS:
            for function in (joint_lot, shared_lot, refines):
                self.refuses("lot", function, 12, wrong, wrong)
                self.refuses("other", function, 12, FIVE, wrong)
            self.refuses("lot", lot_turned, 12, wrong)
            self.refuses("lot", section_lot, 12, wrong, None, None)
        for wrong in NO_NUMBERS + (0, 4, 5, 24):
            self.refuses("low", section_lot, 12, FIVE, wrong, None)
            self.refuses("high", section_lot, 12, FIVE, 1, wrong)
        self.refuses("high", section_lot, 12, FIVE, 2, 3)
        self.refuses("high", section_lot, 12, FIVE, 12, 6)


class Lists(Case):

    def test_examples(self):
        self.same([list(all_lots(4)), how_many_lots(12), lot_at(12, 4), number_of_lot(12, FIVE)], [[(1, 2, 4), (1, 4)], 12, (1, 2, 6, 12), 1])

    def test_by_name(self):
        self.same([list(all_lots(wheel=1)), how_many_lots(wheel=1), lot_at(wheel=1, place=0), number_of_lot(wheel=1, lot=(1,))],
                  [[(1,)], 1, (1,), 0])

    def test_all_lots(self):
        for wheel in WHEELS + (5, 9, 32, 48, 60, 72, 2 ** 11, 3 ** 11):
            wanted = lots_by_words(wheel) if wheel < 10 ** 4 else [(1,) + part + (wheel,) for part in subsets(3 ** k for k in range(1, 11))]
            self.same(list(all_lots(wheel)), sorted(wanted))
            self.same(how_many_lots(wheel), len(wanted))
            for place, lot in list(enumerate(sorted(wanted)))[::1 + len(wanted) // 9]:
                self.same([lot_at(wheel, place), number_of_lot(wheel, lot)], [lot, place])

    def test_a_great_prime(self):
        self.same([list(all_lots(999983)), how_many_lots(999983)], [[(1, 999983)], 1])

    def test_checked(self):
        for wrong in NO_NUMBERS + (12, 13, 10 ** 60):
            self.refuses("place", lot_at, 12, wrong)
        for wrong in WRONG_LOTS:
            self.refuses("lot", number_of_lot, 12, wrong)


class Leveling(Case):

    def test_examples(self):
        self.same([level_pairs(12, FIVE), level_classes(12, FIVE)],
                  [(((2, 1), (2, 2)), ((3, 1), (2, 2))), (((2, 1),), ((3, 1),), ((2, 2),))])

    def test_by_name(self):
        self.same([level_pairs(wheel=1, lot=(1,)), lot_by_pairs(wheel=1, pairs=()), level_classes(wheel=1, lot=(1,))], [(), (1,), ()])

    def test_all_lots(self):
        for wheel in WHEELS:
            levels = wheel_levels(wheel)
            for lot in lots_by_words(wheel):
                pairs = [(x, y) for x in levels for y in levels if x != y
                         and all(m % x[0] ** x[1] == 0 for m in lot if m % y[0] ** y[1] == 0)]
                self.same(level_pairs(wheel, lot), tuple(sorted(pairs)))
                self.same(lot_by_pairs(wheel, tuple(sorted(pairs))), lot)
                classes = []
                for member in firm_by_words(lot):
                    base = max(other for other in lot if other < member and member % other == 0)
                    classes.append(tuple((p, k) for p, k in levels if member % p ** k == 0 and base % p ** k))
                self.same(level_classes(wheel, lot), tuple(classes))
                for row, (many, weight) in zip(classes, lot_board(wheel, lot)[1]):
                    most = {p: max(k for q, k in levels if q == p) for p, _ in levels}
                    self.assertEqual(sorted((p, most[p] + 1 - k) for p, k in row), levels_of_dial(many, weight))

    def test_all_sets_of_pairs(self):
        for wheel in (1, 2, 4, 6, 12):
            levels = wheel_levels(wheel)
            for pairs in subsets(itertools.product(levels, repeat=2)):
                wanted = [m for m in divisors(wheel) if all(m % x[0] ** x[1] == 0 or m % y[0] ** y[1] for x, y in pairs)]
                self.same(lot_by_pairs(wheel, pairs), tuple(wanted))
                self.same(is_lot(wheel, tuple(wanted)), True)

    def test_a_million(self):
        self.same(lot_by_pairs(10 ** 6, (((2, 6), (5, 1)), ((5, 6), (2, 1)))), (1, 10 ** 6))
        self.same(lot_by_pairs(999983, (((999983, 1), (999983, 1)),)), (1, 999983))
        lot = tuple(2 ** k for k in range(20))
        self.same([lot_by_pairs(2 ** 19, ()), level_classes(2 ** 19, lot)], [lot, tuple(((2, k),) for k in range(1, 20))])
        self.same(level_pairs(2 ** 19, lot), tuple(((2, j), (2, k)) for j in range(1, 20) for k in range(j + 1, 20)))

    def test_checked(self):
        for wrong in WRONG_LOTS:
            self.refuses("lot", level_pairs, 12, wrong)
            self.refuses("lot", level_classes, 12, wrong)
        one, two, three = (2, 1), (2, 2), (3, 1)
        for wrong in NO_TUPLES + ((one,), (one, two), ((one, two, three),), ([one, two],), ((one, two), (one, two)), ((one, three), (one, two)),
                                  ((one, (2, 3)),), (((2, 0), one),), (((3, 2), one),), (((5, 1), one),), (((2, True), one),), ((one, (4, 1)),),
                                  ((one, [2, 2]),), ((one, (2, 2, 2)),), ((one, None),), (None,), (((2, None), one),), (((2, -1), one),),
                                  (((None, 1), one),), ([],), ((one, two), None), (((), ()),), "ab", ("ab",)):
            self.refuses("pairs", lot_by_pairs, 12, wrong)
        self.refuses("pairs", lot_by_pairs, 1, (((2, 1), (2, 1)),))
        self.same(lot_by_pairs(12, ((one, one), (one, three), (two, two))), (1, 2, 4, 6, 12))
