"""Points [50] and [51]: sections and growing, and their consequences."""

import itertools
import math

from tests.common import (CLOCK, NO_NUMBERS, NO_TUPLES, NONE, ODD, RESTS, Case, great_numberings, is_one, mixer, some_numberings)
from wheelwritten.carrying import hands_to
from wheelwritten.closings import closed_sets
from wheelwritten.growing import dropped, lifted, put_above, put_below
from wheelwritten.laying import is_numbering
from wheelwritten.lots import lot_of
from wheelwritten.lotjoining import section_lot
from wheelwritten.reaching import above, below, reach_of
from wheelwritten.sections import section


def prod_of(board, dials):
    return math.prod(board[1][dial][0] for dial in dials)


class Sections(Case):

    def test_by_hand(self):
        self.same([section(CLOCK, (), (0, 1)), section(CLOCK, (0,), (0, 1, 2)), section(CLOCK, (1,), (1,)), section(ODD, (0,), (0, 1))],
                  [(6, ((2, 3), (3, 2))), (6, ((3, 4), (2, 1))), NONE, (3, ((3, 2),))])
        self.same([section(numbering=CLOCK, inner=(), outer=(0, 1, 2)), section(NONE, (), ())], [CLOCK, NONE])

    def compare(self, board, inner, outer):
        got = section(board, inner, outer)
        kept = [dial for dial in outer if dial not in inner]
        wheel = prod_of(board, outer) // prod_of(board, inner)
        divisor = board[0] // prod_of(board, outer)
        self.same(got, (wheel, tuple((board[1][d][0], board[1][d][1] // divisor % wheel) for d in kept)))
        for dial in kept:
            self.assertEqual(board[1][dial][1] % divisor, 0)
        self.assertTrue(is_numbering(got))
        reach = reach_of(board)
        self.same(reach_of(got), tuple(tuple(kept.index(j) for j in reach[i] if j in kept) for i in kept))
        self.same(lot_of(got), section_lot(board[0], lot_of(board), prod_of(board, inner), prod_of(board, outer)))
        return got

    def test_small_numberings(self):
        for board in some_numberings(11):
            closed = closed_sets(board)
            for inner, outer in itertools.product(closed, repeat=2):
                if set(inner) <= set(outer):
                    self.assertTrue(is_one(self.compare(board, inner, outer)))
                else:
                    self.refuses("outer", section, board, inner, outer)

    def test_great_numberings(self):
        for board in great_numberings()[::2]:
            closed = closed_sets(board)
            for inner in closed[::1 + len(closed) // 4]:
                for outer in closed[::1 + len(closed) // 4]:
                    if set(inner) <= set(outer):
                        self.compare(board, inner, outer)

    def test_checked(self):
        for wrong in NO_TUPLES + ((2,), (0, 2), (1, 0), (0, 0), (3,), (True,), (False,), (None,), (-1,), [0]):
            self.refuses("inner", section, CLOCK, wrong, wrong)
            self.refuses("outer", section, CLOCK, (), wrong)
        self.refuses("outer", section, CLOCK, (0,), (1,))
        self.refuses("outer", section, CLOCK, (0, 1), (1,))
        self.refuses("inner", section, NONE, (0,), ())


class Growing(Case):

    def test_examples(self):
        self.same(put_below(RESTS, 2, 1, (1, 0)), (12, ((2, 9), (3, 2), (2, 6))))
        self.same([put_above(RESTS, 2, 1), put_above(RESTS, 2, 11), dropped(CLOCK, 0), lifted(CLOCK, 2)],
                  [CLOCK, (12, ((2, 6), (3, 4), (2, 11))), (6, ((3, 4), (2, 1))), RESTS])

    def test_by_name(self):
        self.same([put_below(numbering=NONE, times=5, unit=2, lifts=()), put_above(numbering=NONE, times=5, unit=3),
                   dropped(numbering=RESTS, dial=0), lifted(numbering=RESTS, dial=0)],
                  [(5, ((5, 2),)), (5, ((5, 3),)), (3, ((3, 2),)), (3, ((3, 1),))])

    def check_below(self, board, times, unit, lifts):
        wheel, size = board[0], len(board[1])
        got = put_below(board, times, unit, lifts)
        self.same(got, (times * wheel, tuple((many, weight + lift * wheel) for (many, weight), lift in zip(board[1], lifts))
                        + ((times, unit * wheel),)))
        self.assertTrue(is_numbering(got))
        self.same([hands_to(got, size), dropped(got, size)], [(), board])
        return got

    def check_above(self, board, times, unit):
        wheel, size = board[0], len(board[1])
        got = put_above(board, times, unit)
        self.same(got, (times * wheel, tuple((many, weight * times) for many, weight in board[1]) + ((times, unit),)))
        self.assertTrue(is_numbering(got))
        self.same([above(got, size), lifted(got, size)], [(), board])
        return got

    def test_small_numberings(self):
        for board in some_numberings(37):
            size = len(board[1])
            for times in (2, 3, 4, 6):
                if board[0] * times > 60:
                    continue
                for unit in range(-1, times + 1):
                    if not 0 <= unit < times or math.gcd(unit, times) > 1:
                        self.refuses("unit", put_below, board, times, unit, (0,) * size)
                        continue
                    for lifts in list(itertools.product(range(times), repeat=size))[::3]:
                        self.assertTrue(is_one(self.check_below(board, times, unit, lifts)))
                for unit in range(-1, board[0] * times + 1):
                    if not 0 <= unit < board[0] * times or math.gcd(unit, times) > 1:
                        self.refuses("unit", put_above, board, times, unit)
                    else:
                        self.assertTrue(is_one(self.check_above(board, times, unit)))

    def test_dials_taken_off(self):
        for board in some_numberings(5):
            wheel, dials = board
            for dial in range(len(dials)):
                others = dials[:dial] + dials[dial + 1:]
                many = dials[dial][0]
                if hands_to(board, dial) == ():
                    self.same(dropped(board, dial), (wheel // many, tuple((one, weight % (wheel // many)) for one, weight in others)))
                    self.assertTrue(is_one(dropped(board, dial)))
                else:
                    self.refuses("dial", dropped, board, dial)
                if all(dial not in below(board, other) for other in range(len(dials))):
                    self.same(lifted(board, dial), (wheel // many, tuple((one, weight // many) for one, weight in others)))
                    self.assertTrue(is_one(lifted(board, dial)))
                else:
                    self.refuses("dial", lifted, board, dial)

    def test_great_numberings(self):
        random = mixer(11)
        for board in great_numberings():
            times = random(10 ** 6) + 2
            unit = next(u for u in range(random(times), 2 * times) if math.gcd(u, times) == 1) % times
            self.check_below(board, times, unit, tuple(random(times) for _ in board[1]))
            unit = random(board[0]) * times + unit
            self.check_above(board, times, unit)

    def test_checked(self):
        for wrong in NO_NUMBERS + (0, 1):
            self.refuses("times", put_below, RESTS, wrong, None, None)
            self.refuses("times", put_above, RESTS, wrong, None)
        for wrong in NO_NUMBERS + (0, 2, 4, 5):
            self.refuses("unit", put_below, RESTS, 4, wrong, None)
        for wrong in NO_NUMBERS + (0, 2, 4, 22, 24, 25):
            self.refuses("unit", put_above, RESTS, 4, wrong)
        for wrong in NO_TUPLES + ((), (0,), (0, 0, 0), [0, 0], (0, 4), (4, 0), (0, -1), (True, 0), (0, False), (None, 0), "00"):
            self.refuses("lifts", put_below, RESTS, 4, 1, wrong)
        self.refuses("lifts", put_below, NONE, 4, 1, (0,))
        for wrong in NO_NUMBERS + (3, 4):
            self.refuses("dial", dropped, CLOCK, wrong)
            self.refuses("dial", lifted, CLOCK, wrong)
        self.refuses("dial", dropped, CLOCK, 2)
        self.refuses("dial", lifted, CLOCK, 0)
        self.refuses("dial", dropped, NONE, 0)
        self.refuses("dial", lifted, NONE, 0)
