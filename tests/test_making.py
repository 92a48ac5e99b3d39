"""Points [18] to [20]: makers, moving, stacking, parting, and their consequences."""

import itertools
import math

from tests.common import (BOTH, CLOCK, NO_NUMBERS, NONE, ODD, RESTS, SIX, Case, is_one, place, settings, small_boards)
from wheelwritten.errors import Tied
from wheelwritten.makers import digit_board, rest_board
from wheelwritten.moving import resorted, scaled
from wheelwritten.parting import can_merge, merged, parted
from wheelwritten.stacking import side_by_side, upon

NO_BOARDS = (None, True, 6, "wheel", (), (6,), (0, ()), (6, []), (6, ((2, 6),)), (6, ((1, 0),)), [6, ()], (True, ()),
             (6, ((2, True),)), (6, ([2, 1],)))
SOME = [board for k, board in enumerate(small_boards()) if k % 23 == 0] + [NONE, CLOCK, ODD, RESTS, BOTH, SIX]


class Makers(Case):

    def test_examples(self):
        self.same([digit_board((2, 3)), rest_board((2, 3))], [(6, ((2, 1), (3, 2))), (6, ((2, 3), (3, 2)))])
        self.raises(Tied, {"one": 1, "other": 2}, rest_board, (5, 4, 6))

    def test_by_name(self):
        self.same([digit_board(ranges=(2,)), rest_board(ranges=(2,))], [(2, ((2, 1),)), (2, ((2, 1),))])

    def test_no_dials(self):
        self.same([digit_board(()), rest_board(())], [(1, ()), (1, ())])

    def test_numberings(self):
        for ranges in itertools.chain(itertools.product((2, 3, 4, 5), repeat=3), itertools.product((2, 6, 7), repeat=2)):
            board = digit_board(ranges)
            self.same(board[0], math.prod(ranges))
            self.same(board[1], tuple((many, math.prod(ranges[:k])) for k, many in enumerate(ranges)))
            self.assertTrue(is_one(board))
            tied = [(i, j) for i, j in itertools.combinations(range(len(ranges)), 2) if math.gcd(ranges[i], ranges[j]) > 1]
            if tied:
                self.raises(Tied, {"one": tied[0][0], "other": tied[0][1]}, rest_board, ranges)
            else:
                wheel = math.prod(ranges)
                self.same(rest_board(ranges), (wheel, tuple((many, wheel // many) for many in ranges)))
                self.assertTrue(is_one(rest_board(ranges)))

    def test_first_tied_pair(self):
        for ranges, one, other in (((2, 3, 5, 9, 4), 0, 4), ((7, 2, 3, 4, 9), 1, 3), ((6, 2, 3), 0, 1), ((5, 6, 3, 2), 1, 2),
                                   ((3, 3), 0, 1), ((2, 9, 3, 2), 0, 3)):
            self.raises(Tied, {"one": one, "other": other}, rest_board, ranges)

    def test_sixty_digits(self):
        ranges = (10 ** 29, 7 ** 30, 3, 11, 13)
        wheel = math.prod(ranges)
        self.same(digit_board(ranges)[1][4], (13, wheel // 13))
        self.same(rest_board(ranges)[1][0], (10 ** 29, wheel // 10 ** 29))


class Moving(Case):

    def test_examples(self):
        self.same([scaled(RESTS, 5), resorted(CLOCK, (2, 0, 1))],
                  [(6, ((2, 3), (3, 4))), (12, ((2, 1), (2, 6), (3, 4)))])

    def test_by_name(self):
        self.same([scaled(board=RESTS, unit=1), resorted(board=RESTS, sequence=(0, 1))], [RESTS, RESTS])

    def test_wheel_one(self):
        self.same(scaled(NONE, 0), NONE)
        self.same(scaled((1, ((2, 0),)), 0), (1, ((2, 0),)))
        self.same(resorted(NONE, ()), NONE)
        self.refuses("unit", scaled, NONE, 1)

    def test_scaled(self):
        for board in SOME:
            for unit in range(board[0] + 2):
                if unit < board[0] and math.gcd(unit, board[0]) == 1:
                    new = scaled(board, unit)
                    for setting in settings(board):
                        self.assertEqual(place(new, setting), unit * place(board, setting) % board[0])
                    self.same(new, (board[0], tuple((m, w * unit % board[0]) for m, w in board[1])))
                    self.assertEqual(is_one(new), is_one(board))
                else:
                    self.refuses("unit", scaled, board, unit)

    def test_resorted(self):
        for board in SOME:
            for sequence in itertools.permutations(range(len(board[1]))):
                new = resorted(board, sequence)
                self.same(new, (board[0], tuple(board[1][dial] for dial in sequence)))
                self.assertEqual(is_one(new), is_one(board))

    def test_checked(self):
        for unit in NO_NUMBERS + (0, 2, 3, 6, 7):
            self.refuses("unit", scaled, RESTS, unit)
        for sequence in (None, 0, True, "01", [0, 1], (), (0,), (0, 0), (1, 1), (0, 2), (0, 1, 2), (False, True), (0, True),
                         (-1, 0), (0, None)):
            self.refuses("sequence", resorted, RESTS, sequence)


class Stacking(Case):

    def test_examples(self):
        self.same([side_by_side((2, ((2, 1),)), (3, ((3, 2),))), upon((2, ((2, 1),)), (3, ((3, 2),)))],
                  [(6, ((2, 3), (3, 4))), (6, ((2, 1), (3, 4)))])

    def test_by_name(self):
        self.same([side_by_side(board=RESTS, other=NONE), upon(board=RESTS, other=NONE)], [RESTS, RESTS])

    def test_places(self):
        for board in SOME:
            for other in (NONE, (1, ((2, 0),)), (5, ((5, 2),)), (4, ((2, 1), (2, 2))), BOTH, (7, ()), RESTS):
                wheel = board[0] * other[0]
                above = upon(board, other)
                self.same(above[0], wheel)
                self.same(above[1][:len(board[1])], board[1])
                if math.gcd(board[0], other[0]) == 1:
                    beside = side_by_side(board, other)
                    self.same(beside[0], wheel)
                    self.assertEqual(is_one(beside), is_one(board) and is_one(other))
                else:
                    self.refuses("other", side_by_side, board, other)
                if is_one(board) and is_one(other):
                    self.assertTrue(is_one(above))
                for s in settings(board)[:9]:
                    for t in settings(other)[:9]:
                        whole = sum(figure * weight for figure, (_, weight) in zip(s, board[1]))
                        self.assertEqual(place(above, s + t), (whole + board[0] * place(other, t)) % wheel)
                        if math.gcd(board[0], other[0]) == 1:
                            self.assertEqual(place(beside, s + t),
                                             (place(board, s) * other[0] + place(other, t) * board[0]) % wheel)

    def test_checked(self):
        for other in NO_BOARDS:
            self.refuses("other", side_by_side, RESTS, other)
            self.refuses("other", upon, RESTS, other)
        for other in ((2, ()), (3, ((3, 1),)), (12, ()), RESTS):
            self.refuses("other", side_by_side, RESTS, other)

    def test_sixty_digits(self):
        board, other = (10 ** 30, ((10 ** 30, 3),)), (7 ** 34, ((7, 7 ** 33),))
        self.same(side_by_side(board, other),
                  (10 ** 30 * 7 ** 34, ((10 ** 30, 3 * 7 ** 34), (7, 7 ** 33 * 10 ** 30))))
        self.same(upon(board, other), (10 ** 30 * 7 ** 34, ((10 ** 30, 3), (7, 7 ** 33 * 10 ** 30))))


class Parting(Case):

    def test_examples(self):
        self.same([parted((6, ((6, 5),)), 0, 2), can_merge(ODD, 0, 1), merged(ODD, 1, 0)],
                  [(6, ((2, 5), (3, 4))), False, (12, ((6, 10), (2, 1)))])

    def test_by_name(self):
        self.same([parted(board=(4, ((4, 1),)), dial=0, low=2), can_merge(board=ODD, one=1, other=0),
                   merged(board=ODD, one=1, other=0)],
                  [(4, ((2, 1), (2, 2))), True, (12, ((6, 10), (2, 1)))])

    def test_parted(self):
        for wheel, dials in ((12, ((2, 5), (12, 7), (3, 4))), (8, ((4, 3), (4, 6))), (6, ((6, 5), (2, 1))), (5, ((30, 4),)),
                             (12, ((12, 1),))):
            board = (wheel, dials)
            for dial, (many, weight) in enumerate(dials):
                for low in range(many + 2):
                    if not (1 < low < many and many % low == 0):
                        self.refuses("low", parted, board, dial, low)
                        continue
                    new = parted(board, dial, low)
                    pair = ((low, weight), (many // low, low * weight % wheel))
                    self.same(new, (wheel, dials[:dial] + pair + dials[dial + 1:]))
                    self.assertEqual(is_one(new), is_one(board))
                    self.same(can_merge(new, dial, dial + 1), True)
                    self.same(merged(new, dial, dial + 1), board)
                    for s in settings(board):
                        t = s[:dial] + (s[dial] % low, s[dial] // low) + s[dial + 1:]
                        self.assertEqual(place(new, t), place(board, s))

    def test_parted_checked(self):
        for dial in NO_NUMBERS + (1, 2):
            for low in (2, None):
                self.refuses("dial", parted, (6, ((6, 5),)), dial, low)
        for low in NO_NUMBERS + (0, 1, 4, 5, 6, 7, 12):
            self.refuses("low", parted, (6, ((6, 5),)), 0, low)
        self.refuses("dial", parted, NONE, 0, 2)

    def test_merged(self):
        seen = set()
        for board in SOME:
            wheel, dials = board
            for one, other in itertools.permutations(range(len(dials)), 2):
                holds = dials[other][1] == dials[one][0] * dials[one][1] % wheel
                seen.add(holds)
                self.same(can_merge(board, one, other), holds)
                if not holds:
                    self.refuses("other", merged, board, one, other)
                    continue
                new = merged(board, one, other)
                both = (dials[one][0] * dials[other][0], dials[one][1])
                wanted = tuple(both if k == one else dial for k, dial in enumerate(dials) if k != other)
                self.same(new, (wheel, wanted))
                self.assertEqual(is_one(new), is_one(board))
                for s in settings(board):
                    t = [s[one] + dials[one][0] * s[other] if k == one else f for k, f in enumerate(s) if k != other]
                    self.assertEqual(place(new, tuple(t)), place(board, s))
        self.assertEqual(seen, {True, False})

    def test_merging_checked(self):
        for function in (can_merge, merged):
            for wrong in NO_NUMBERS + (3, 4):
                for other in (1, 0, None):
                    self.refuses("one", function, ODD, wrong, other)
                self.refuses("other", function, ODD, 1, wrong)
            self.refuses("other", function, ODD, 1, 1)
            self.refuses("one", function, NONE, 0, 0)

    def test_sixty_digits(self):
        board = (10 ** 59, ((10 ** 59, 3),))
        new = parted(board, 0, 10 ** 58)
        self.same(new, (10 ** 59, ((10 ** 58, 3), (10, 3 * 10 ** 58))))
        self.same(merged(new, 0, 1), board)
