"""Point [71]: the cheapest ranges."""

import itertools
import math

from tests.common import NO_NUMBERS, Case
from tests.reference import exponent, factorings, fewest_colours, primes_of
from wheelwritten.cheapest import cheapest_ranges, cost_of, even_powers, least_cost

PRICES = ((0, 0), (0, 5), (1, 0), (1, 1), (1, 2), (1, 7), (2, 3), (3, 1), (1, 100), (10 ** 59, 10 ** 59 - 1))


def cost(ranges, price, toll):
    return price * sum(ranges) + toll * (fewest_colours(ranges) - 1) if ranges else 0


class Cheapest(Case):

    def test_examples(self):
        self.same(cost_of((2, 3, 2), 1, 10), 17)
        self.same([even_powers(72, 2), even_powers(72, 1)], [(2, 3, 3, 4), (8, 9)])

    def test_by_name(self):
        self.same([cost_of(ranges=(), price=1, toll=1), even_powers(wheel=1, most=1), least_cost(wheel=1, price=1, toll=1),
                   cheapest_ranges(wheel=1, price=1, toll=1)], [0, (), 0, ()])

    def test_costs(self):
        for ranges in ((), (2,), (6,), (2, 3), (2, 2), (22, 6, 15, 35, 77), (2, 2, 2, 2), (6, 10, 15), (4, 9, 25, 6), (30, 7, 11, 13, 14)):
            for price, toll in PRICES:
                self.same(cost_of(ranges, price, toll), cost(ranges, price, toll))
        self.same(cost_of((2 ** 40, 3 ** 30, 2 ** 40, 3 ** 30, 2, 3, 2, 3), 10 ** 59, 10 ** 58), cost((2 ** 40, 3 ** 30, 2 ** 40, 3 ** 30, 2, 3, 2, 3), 10 ** 59, 10 ** 58))

    def test_even_powers(self):
        for wheel in list(range(1, 200)) + [2 ** 8, 3 ** 7, 2 ** 5 * 3 ** 3, 720720, 999983, 10 ** 6, 2 ** 19]:
            for most in (1, 2, 3, 4, 5, 8, 25, 10 ** 59):
                powers = even_powers(wheel, most)
                self.assertIs(type(powers), tuple)
                self.same(list(powers), sorted(powers))
                self.assertEqual(math.prod(powers), wheel)
                for prime in [p for p in (2, 3, 5, 7, 11, 13, 999983) if wheel % p == 0] if wheel > 200 else primes_of(wheel):
                    parts = [exponent(power, prime) for power in powers if power % prime == 0]
                    self.assertTrue(all(power == prime ** exponent(power, prime) for power in powers if power % prime == 0))
                    self.assertEqual(len(parts), min(most, exponent(wheel, prime)))
                    self.assertLessEqual(max(parts) - min(parts), 1)

    def test_beside_all_ranges(self):
        for wheel in list(range(1, 33)) + [36, 48, 60, 64, 72, 96, 100, 128, 144]:
            rows = sorted({tuple(sorted(ranges)) for ranges in factorings(wheel)})
            for price, toll in PRICES:
                best = min(cost(ranges, price, toll) for ranges in rows)
                self.same(least_cost(wheel, price, toll), best)
                ranges = cheapest_ranges(wheel, price, toll)
                self.assertIs(type(ranges), tuple)
                self.assertEqual([math.prod(ranges), cost(ranges, price, toll)], [wheel, best])

    def test_greater_wheels(self):
        for wheel in (2 ** 8, 2 ** 4 * 3 ** 4, 30 ** 2 * 4, 999983, 10 ** 4, 2 * 3 * 5 * 7 * 11 * 13, 720720):
            for price, toll in PRICES:
                ranges = cheapest_ranges(wheel, price, toll)
                self.assertEqual(math.prod(ranges), wheel)
                self.same([least_cost(wheel, price, toll), cost_of(ranges, price, toll)], [cost(ranges, price, toll)] * 2)
                for most in range(1, 9):
                    self.assertLessEqual(least_cost(wheel, price, toll), cost(even_powers(wheel, most), price, toll))

    def test_checked(self):
        for wrong in NO_NUMBERS:
            self.refuses("price", cost_of, (2, 3), wrong, None)
            self.refuses("toll", cost_of, (2, 3), 1, wrong)
            self.refuses("price", cost_of, (), wrong, None)
            self.refuses("toll", cost_of, (), 0, wrong)
            self.refuses("most", even_powers, 12, wrong)
            for function, wheel in itertools.product((least_cost, cheapest_ranges), (1, 12)):
                self.refuses("price", function, wheel, wrong, wrong)
                self.refuses("toll", function, wheel, 0, wrong)
        self.refuses("most", even_powers, 12, 0)
