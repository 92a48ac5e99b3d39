"""Points [14] and [15]: dividing and factoring."""

import math

from tests.common import NO_NUMBERS, Case
from wheelwritten.dividing import gcd_of, inverse_of, lcm_of, product_of, turns_of
from wheelwritten.factoring import divisors_of, exponent_in, factors_of, how_many_units, is_prime


class Dividing(Case):

    def test_examples(self):
        self.same([gcd_of(0, 12), lcm_of(4, 6), turns_of(12, 8), turns_of(12, 0), inverse_of(12, 7), inverse_of(12, 8)],
                  [12, 12, 3, 1, 7, None])

    def test_by_name(self):
        self.same([gcd_of(many=4, other=6), lcm_of(many=4, other=6), turns_of(wheel=12, place=8),
                   inverse_of(wheel=12, place=7), product_of(ranges=(2, 3))], [2, 12, 3, 7, 6])

    def test_gcd_and_lcm(self):
        for many in range(25):
            for other in range(25):
                self.same(gcd_of(many, other), math.gcd(many, other))
                if many and other:
                    self.same(lcm_of(many, other), math.lcm(many, other))
        self.same(gcd_of(0, 0), 0)
        self.same(gcd_of(10 ** 60, 6 ** 60), 2 ** 60)
        self.same(lcm_of(10 ** 60, 6 ** 60), 30 ** 60)

    def test_other_is_checked(self):
        for other in NO_NUMBERS:
            self.refuses("other", gcd_of, 12, other)
            self.refuses("other", lcm_of, 12, other)
        self.refuses("other", lcm_of, 12, 0)

    def test_turns_and_inverses(self):
        for wheel in range(1, 31):
            for place in range(wheel):
                turns = next(k for k in range(1, wheel + 1) if k * place % wheel == 0)
                self.same(turns_of(wheel, place), turns)
                inverses = [k for k in range(wheel) if (k * place - 1) % wheel == 0]
                self.same(inverse_of(wheel, place), inverses[0] if inverses else None)
        self.same([turns_of(1, 0), inverse_of(1, 0)], [1, 0])
        self.same(turns_of(10 ** 60, 4 * 10 ** 59 + 10 ** 58), 100)
        self.same(inverse_of(10 ** 60, 3) * 3 % 10 ** 60, 1)

    def test_place_is_checked(self):
        for place in NO_NUMBERS + (12, 13, 10 ** 60):
            self.refuses("place", turns_of, 12, place)
            self.refuses("place", inverse_of, 12, place)
        self.refuses("place", turns_of, 1, 1)
        self.refuses("place", inverse_of, 1, 1)

    def test_product(self):
        self.same([product_of(()), product_of((7,)), product_of((2, 3, 4)), product_of((10 ** 10,) * 6)],
                  [1, 7, 24, 10 ** 60])


class Factoring(Case):

    def test_examples(self):
        self.same([factors_of(12), divisors_of(12), how_many_units(12)], [((2, 2), (3, 1)), (1, 2, 3, 4, 6, 12), 4])

    def test_by_name(self):
        self.same([factors_of(many=4), divisors_of(many=4), how_many_units(many=4), exponent_in(many=4, prime=2),
                   is_prime(thing=4)], [((2, 2),), (1, 2, 4), 2, 2, False])

    def test_small_numbers(self):
        primes = [p for p in range(2, 400) if all(p % k for k in range(2, p))]
        for many in range(1, 400):
            self.same(divisors_of(many), tuple(k for k in range(1, many + 1) if many % k == 0))
            self.same(how_many_units(many), sum(math.gcd(k, many) == 1 for k in range(many)))
            factors = factors_of(many)
            self.same(shape_of(factors), True)
            self.assertEqual([p for p, _ in factors], [p for p in primes if many % p == 0])
            self.assertEqual(math.prod(p ** e for p, e in factors), many)
            self.same(is_prime(many), many in primes)
            for prime in (2, 3, 5, 19):
                self.same(exponent_in(many, prime), max(e for e in range(10) if many % prime ** e == 0))

    def test_one(self):
        self.same([factors_of(1), divisors_of(1), how_many_units(1), exponent_in(1, 2)], [(), (1,), 1, 0])

    def test_to_a_million(self):
        self.same(factors_of(10 ** 6), ((2, 6), (5, 6)))
        self.same(factors_of(999983), ((999983, 1),))
        self.same(factors_of(994009), ((997, 2),))
        self.same(how_many_units(999983), 999982)
        self.same(how_many_units(720720), 138240)
        self.same(len(divisors_of(720720)), 240)
        self.same(divisors_of(994009), (1, 997, 994009))

    def test_exponents(self):
        self.same(exponent_in(2 ** 199, 2), 199)
        self.same(exponent_in(10 ** 59, 5), 59)
        self.same(exponent_in(10 ** 59, 3), 0)
        self.same(exponent_in(999983 ** 9 * 4, 999983), 9)

    def test_prime_is_checked(self):
        for prime in NO_NUMBERS + (0, 1, 4, 6, 9, 994009, 10 ** 6):
            self.refuses("prime", exponent_in, 12, prime)

    def test_is_prime(self):
        for thing in NO_NUMBERS + (-2, -3, 0, 1, 994009, 10 ** 6, (2,), "2"):
            self.same(is_prime(thing), False)
        self.same([is_prime(2), is_prime(3), is_prime(999983), is_prime(999979)], [True, True, True, True])


def shape_of(factors):
    return type(factors) is tuple and all(type(pair) is tuple and len(pair) == 2 for pair in factors)
