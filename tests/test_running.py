"""Points [73] to [78]: roots, transforms, stores, passes, runs, products, figures."""

import itertools
import math

from tests.common import (CLOCK, DIGITS, NO_NUMBERS, NO_TUPLES, NONE, ODD, RESTS, Case, grown, is_one, mixer, settings, some_numberings)
from tests.common import place as place_in
from tests.pairs import ODDS, PAIR, WRONG_OTHERS
from wheelwritten.convolving import product_by_plan, wheel_product, whole_product
from wheelwritten.duals import dual_of, lean_of
from wheelwritten.figuring import figures_by, loose_product, number_by, settled
from wheelwritten.makers import digit_board
from wheelwritten.passing import passed, sum_passed, twist_passed
from wheelwritten.planning import plan_of
from wheelwritten.roots import all_roots, is_root, prime_for, root_of
from wheelwritten.running import run_back, run_plan, run_stores
from wheelwritten.stores import store_of, values_of
from wheelwritten.transforms import back_transform, power_table, transform

TWOS = (4, ((2, 2), (2, 1)))
MIRROR = (4, ((2, 1), (2, 2)))
PASSES = (('sum', 0, 2), ('twist', ((0, 1, 1),)), ('sum', 1, 2))
VALUES = (1, 2, 0, 0)
PLAN = (("sum", 0, 6), ("sum", 1, 8), ("twist", ((0, 2, 3), (1, 2, 2))), ("sum", 2, 6))
NO_PRIMES = NO_NUMBERS + (0, 1, 4, 9, 15, 25, 10 ** 60)
NO_WHEELS = NO_NUMBERS + (0,)


def primes(most):
    return [p for p in range(2, most) if all(p % k for k in range(2, p))]


def roots_by_words(prime, wheel):
    found = []
    for number in range(prime):
        powers = [number ** k % prime for k in range(1, wheel + 1)]
        if powers[-1] == 1 % prime and 1 not in powers[:-1]:
            found.append(number)
    return tuple(found)


def by_double_sum(prime, wheel, root, values):
    return tuple(sum(values[r] * root ** (r * k) for r in range(wheel)) % prime for k in range(wheel))


def some_values(prime, wheel, seed):
    below = mixer(seed)
    return tuple(below(prime) for _ in range(wheel))


def prime_and_root(wheel, seed=0):
    """A prime beyond some number, and one of its roots."""
    prime = next(p for p in itertools.count(2 + seed * 7) if p % wheel == 1 % wheel and all(p % k for k in range(2, math.isqrt(p) + 1)))
    roots = all_roots(prime, wheel)
    return prime, roots[seed % len(roots)]


def behind(board, prime, root, store, single):
    """The store behind a pass, by the words."""
    rows = settings(board)
    entries = dict(zip(rows, store))
    if single[0] == "twist":
        return tuple(entries[row] * root ** sum(f * row[i] * row[j] for i, j, f in single[1]) % prime for row in rows)
    dial, factor = single[1:]

    def with_figure(row, figure):
        return row[:dial] + (figure,) + row[dial + 1:]
    return tuple(sum(entries[with_figure(row, d)] * root ** (factor * d * row[dial]) for d in range(board[1][dial][0])) % prime for row in rows)


def product_by_words(wheel, one, other):
    found = [0] * wheel
    for a, b in itertools.product(range(wheel), repeat=2):
        found[(a + b) % wheel] += one[a] * other[b]
    return found


class Roots(Case):

    def test_examples(self):
        self.same([prime_for(12, 14), root_of(13, 12), all_roots(13, 12), is_root(13, 5, 1)], [37, 2, (2, 6, 7, 11), False])

    def test_by_name(self):
        self.same([prime_for(wheel=1, least=0), is_root(prime=2, wheel=1, thing=1), root_of(prime=2, wheel=1), all_roots(prime=2, wheel=1)], [2, True, 1, (1,)])

    def test_primes(self):
        own = primes(3000)
        for wheel in list(range(1, 25)) + [97, 128, 180, 199, 200]:
            for least in (0, 1, 2, 3, 4, 5, 11, 12, 13, 14, 17, 18, 100, 101, 102, 199, 200, 201, 499):
                self.same(prime_for(wheel, least), next(p for p in own if p >= least and (p - 1) % wheel == 0))
        self.same([prime_for(1, 99991), prime_for(2, 100000), prime_for(200, 100000)], [99991, 100003, 100801])

    def test_roots_by_words(self):
        for prime in primes(45):
            for wheel in range(1, 50):
                found = roots_by_words(prime, wheel)
                for thing in range(-1, prime + 2):
                    self.same(is_root(prime, wheel, thing), thing in found)
                if (prime - 1) % wheel == 0:
                    self.same([all_roots(prime, wheel), root_of(prime, wheel)], [found, found[0]])
                else:
                    self.same(found, ())
                    self.refuses("wheel", all_roots, prime, wheel)
                    self.refuses("wheel", root_of, prime, wheel)

    def test_as_many_as_units_and_their_powers(self):
        for prime, wheel in ((601, 200), (1009, 144), (999983, 1), (999979, 2), (786433, 192), (995329, 128), (7, 6), (2, 1), (997201, 180)):
            roots = all_roots(prime, wheel)
            units = [unit for unit in range(wheel) if math.gcd(unit, wheel) == 1]
            self.assertEqual(len(roots), len(units))
            self.same(list(roots), sorted(set(roots)))
            self.same(root_of(prime, wheel), roots[0])
            for root in roots[:5]:
                self.same(roots, tuple(sorted(pow(root, unit, prime) for unit in units)))
                self.same([is_root(prime, wheel, root), len({pow(root, k, prime) for k in range(wheel)})], [True, wheel])

    def test_any_thing(self):
        for wrong in NO_NUMBERS + (0, 13, 10 ** 99, 5, 12):
            self.same(is_root(13, 12, wrong), False)
        self.same([is_root(2, 1, True), is_root(13, 10 ** 99, 2), is_root(13, 24, 2)], [False, False, False])

    def test_checked(self):
        for wrong in NO_NUMBERS:
            self.refuses("least", prime_for, 12, wrong)
        for wrong in NO_WHEELS:
            self.refuses("wheel", is_root, 13, wrong, 2)
            self.refuses("wheel", root_of, 13, wrong)
            self.refuses("wheel", all_roots, 13, wrong)
        for wrong in (5, 7, 13, 24, 10 ** 99):
            self.refuses("wheel", root_of, 13, wrong)
            self.refuses("wheel", all_roots, 13, wrong)


class Transforms(Case):

    def test_examples(self):
        self.same([transform(5, 4, 2, VALUES), back_transform(5, 4, 2, (3, 0, 4, 2)), power_table(7, 6, 3)], [(3, 0, 4, 2), VALUES, (1, 3, 2, 6, 4, 5)])

    def test_by_name(self):
        self.same([transform(prime=2, wheel=1, root=1, values=(1,)), back_transform(prime=2, wheel=1, root=1, values=(0,)), power_table(prime=2, wheel=1, root=1)],
                  [(1,), (0,), (1,)])

    def test_beside_the_double_sum(self):
        for wheel in list(range(1, 14)) + [24, 37]:
            for seed in range(3):
                prime, root = prime_and_root(wheel, seed)
                values = some_values(prime, wheel, seed)
                wanted = by_double_sum(prime, wheel, root, values)
                self.same(transform(prime, wheel, root, values), wanted)
                self.same(back_transform(prime, wheel, root, wanted), values)
                self.same(transform(prime, wheel, root, back_transform(prime, wheel, root, values)), values)
                self.same(power_table(prime, wheel, root), tuple(root ** k % prime for k in range(wheel)))

    def test_two_hundred_places(self):
        prime = prime_for(200, 90000)
        root = all_roots(prime, 200)[7]
        values = some_values(prime, 200, 3)
        after = transform(prime, 200, root, values)
        for k in (0, 1, 77, 199):
            self.same(after[k], sum(value * pow(root, r * k, prime) for r, value in enumerate(values)) % prime)
        self.same(back_transform(prime, 200, root, after), values)

    def test_checked(self):
        for function in (transform, back_transform):
            for wrong in NO_WHEELS:
                self.refuses("wheel", function, 5, wrong, wrong, wrong)
            for wrong in NO_NUMBERS + (0, 1, 4, 5, 7):
                self.refuses("root", function, 5, 4, wrong, wrong)
            self.refuses("root", function, 5, 3, 1, VALUES)
            for wrong in NO_TUPLES + ((), (1, 2, 0), (1, 2, 0, 0, 0), (1, 2, 0, 5), (1, 2, 0, -1), (1, 2, 0, True), (False, 2, 0, 0), (1, 2, 0, None), [1, 2, 0, 0]):
                self.refuses("values", function, 5, 4, 2, wrong)
        for wrong in NO_WHEELS:
            self.refuses("wheel", power_table, 5, wrong, wrong)
        for wrong in NO_NUMBERS + (0, 1, 4, 5, 7):
            self.refuses("root", power_table, 5, 4, wrong)
        self.refuses("root", power_table, 2, 1, True)
        self.refuses("root", power_table, 2, 1, 0)


class Stores(Case):

    def test_examples(self):
        self.same([store_of(RESTS, (0, 10, 20, 30, 40, 50)), values_of(RESTS, (0, 20, 40, 30, 50, 10))], [(0, 20, 40, 30, 50, 10), (0, 10, 20, 30, 40, 50)])

    def test_by_name(self):
        self.same([store_of(numbering=NONE, values=(7,)), values_of(numbering=NONE, store=(None,))], [(7,), (None,)])

    def test_any_values(self):
        things = [None, True, "a", (1, (2,)), [3], -5, {}, 10 ** 99]
        for board in some_numberings(19) + [grown((2, 2, 2, 5, 5), 1), (200, ((200, 1),))]:
            values = tuple(things[k % 8] for k in range(board[0]))
            store = store_of(board, values)
            self.assertIs(type(store), tuple)
            for row, entry in zip(settings(board), store):
                self.assertIs(entry, values[place_in(board, row)])
            self.same(len(store), board[0])
            self.same(values_of(board, store), values)
            self.same(store_of(board, values_of(board, values)), values)

    def test_checked(self):
        for wrong in NO_TUPLES + ((), (0,) * 5, (0,) * 7, [0] * 6, "abcdef"):
            self.refuses("values", store_of, RESTS, wrong)
            self.refuses("store", values_of, RESTS, wrong)


class Passing(Case):

    def test_example(self):
        stores = ((1, 2, 0, 0), (1, 2, 1, 2), (1, 2, 1, 4), (3, 4, 0, 2))
        self.same(run_stores(TWOS, 5, 2, PASSES, VALUES), stores)
        self.same([passed(TWOS, 5, 2, store, single) for store, single in zip(stores, PASSES)], list(stores[1:]))

    def test_by_name(self):
        self.same([sum_passed(numbering=TWOS, prime=5, root=2, store=VALUES, dial=0, factor=2), twist_passed(numbering=NONE, prime=2, root=1, store=(1,), terms=()),
                   passed(numbering=NONE, prime=2, root=1, store=(0,), single=("twist", ()))], [(1, 2, 1, 2), (1,), (0,)])

    def test_beside_the_words(self):
        for seed, board in enumerate(some_numberings(17)):
            wheel, dials = board
            below = mixer(seed)
            prime, root = prime_and_root(wheel, seed % 4)
            store = some_values(prime, wheel, seed)
            for dial in range(len(dials)):
                for factor in (0, wheel - 1, below(wheel)):
                    wanted = behind(board, prime, root, store, ("sum", dial, factor))
                    self.same([sum_passed(board, prime, root, store, dial, factor), passed(board, prime, root, store, ("sum", dial, factor))], [wanted] * 2)
            pairs = list(itertools.combinations(range(len(dials)), 2))
            for many in range(len(pairs) + 1):
                terms = tuple((i, j, 1 + below(wheel - 1)) for i, j in pairs[:many])
                wanted = behind(board, prime, root, store, ("twist", terms))
                self.same([twist_passed(board, prime, root, store, terms), passed(board, prime, root, store, ("twist", terms))], [wanted] * 2)

    def test_checked(self):
        for function, last in ((sum_passed, (None, None)), (twist_passed, (None,)), (passed, (None,))):
            for wrong in NO_PRIMES:
                self.refuses("prime", function, TWOS, wrong, wrong, None, *last)
            for wrong in NO_NUMBERS + (0, 1, 4, 5):
                self.refuses("root", function, TWOS, 5, wrong, wrong, *last)
            self.refuses("root", function, TWOS, 7, 2, VALUES, *last)
            for wrong in NO_TUPLES + ((), (1, 2, 0), (1, 2, 0, 0, 0), (1, 2, 0, 5), (1, 2, 0, True), (1, 2, 0, None), [1, 2, 0, 0]):
                self.refuses("store", function, TWOS, 5, 2, wrong, *last)
        for wrong in NO_NUMBERS + (2,):
            self.refuses("dial", sum_passed, TWOS, 5, 2, VALUES, wrong, wrong)
        for wrong in NO_NUMBERS + (4,):
            self.refuses("factor", sum_passed, TWOS, 5, 2, VALUES, 1, wrong)
        for wrong in NO_TUPLES + ((0, 1, 1), ((0, 1, 0),), ((0, 1, 4),), ((1, 0, 1),), ((0, 1, 1), (0, 1, 2)), [(0, 1, 1)], ((0, 1, True),)):
            self.refuses("terms", twist_passed, TWOS, 5, 2, VALUES, wrong)
        for wrong in NO_TUPLES + ((), ("sum", 0), ("sum", 2, 0), ("sum", 0, 4), ("twist", None), ("twist", ((0, 1, 0),)), ["sum", 0, 2], PASSES):
            self.refuses("single", passed, TWOS, 5, 2, VALUES, wrong)


class Running(Case):

    def test_examples(self):
        self.same([run_plan(TWOS, MIRROR, 5, 2, PASSES, VALUES), run_back(TWOS, MIRROR, 5, 2, PASSES, (3, 0, 4, 2))], [(3, 0, 4, 2), VALUES])

    def test_by_name(self):
        self.same([run_stores(numbering=NONE, prime=2, root=1, plan=(), values=(1,)), run_plan(numbering=NONE, other=NONE, prime=2, root=1, plan=(), values=(1,)),
                   run_back(numbering=NONE, other=NONE, prime=2, root=1, plan=(), values=(0,)),
                   product_by_plan(numbering=NONE, other=NONE, prime=3, root=1, plan=(), left=(2,), right=(2,))], [((1,),), (1,), (0,), (1,)])

    def test_stores_of_any_plan(self):
        """Also of plans that are not right."""
        for plan in (PLAN, PLAN[::-1], (("twist", ((0, 1, 5),)),) + PLAN, (PLAN[3], PLAN[0], ("sum", 1, 0))):
            prime, root = prime_and_root(12, 2)
            values = some_values(prime, 12, 5)
            stores = run_stores(CLOCK, prime, root, plan, values)
            self.same(len(stores), len(plan) + 1)
            self.same(stores[0], store_of(CLOCK, values))
            for k, single in enumerate(plan):
                self.same(stores[k + 1], behind(CLOCK, prime, root, stores[k], single))

    def check(self, board, other, plan, seed):
        wheel = board[0]
        prime, root = prime_and_root(wheel, seed % 5)
        values = some_values(prime, wheel, seed)
        wanted = transform(prime, wheel, root, values)
        self.same(run_plan(board, other, prime, root, plan, values), wanted)
        self.same(run_back(board, other, prime, root, plan, wanted), values)
        self.same(run_plan(other, board, prime, root, plan[::-1], values), wanted)
        left = some_values(prime, wheel, seed + 1)
        product = tuple(value % prime for value in product_by_words(wheel, values, left))
        self.same(product_by_plan(board, other, prime, root, plan, values, left), product)
        self.same(wheel_product(prime, wheel, values, left), product)
        self.same(transform(prime, wheel, root, product), tuple(a * b % prime for a, b in zip(wanted, transform(prime, wheel, root, left))))

    def test_runs(self):
        for seed, board in enumerate(some_numberings(11)):
            for other in (dual_of(board), lean_of(board)):
                self.check(board, other, plan_of(board, other), seed)
        self.check(CLOCK, PAIR, PLAN + (("twist", ()),), 0)
        self.check(ODD, ODDS, plan_of(ODD, ODDS), 3)
        self.check(CLOCK, PAIR, (("twist", ((0, 1, 5),)), ("twist", ((0, 1, 7),))) + PLAN, 4)

    def test_two_hundred_places(self):
        for board in (grown((2, 5, 2, 5, 2), 4), grown((10, 20), 1), (200, ((200, 7),)), grown((2, 2, 2, 5, 5), 2)):
            self.check(board, dual_of(board), plan_of(board, dual_of(board)), 2)

    def test_checked(self):
        for wrong in NO_PRIMES:
            self.refuses("prime", run_stores, TWOS, wrong, None, None, None)
        for wrong in NO_NUMBERS + (0, 1, 4, 5):
            self.refuses("root", run_stores, TWOS, 5, wrong, None, None)
        for wrong in NO_TUPLES + ((), PASSES[:1], PASSES + PASSES[:1], list(PASSES), PLAN):
            self.refuses("plan", run_stores, TWOS, 5, 2, wrong, None)
        for wrong in NO_TUPLES + ((), (1, 2, 0), (1, 2, 0, 5), (1, 2, 0, True), [1, 2, 0, 0], (1, 2, 0, 0, 0)):
            self.refuses("values", run_stores, TWOS, 5, 2, PASSES, wrong)
        for function, last in ((run_plan, (None,)), (run_back, (None,)), (product_by_plan, (None, None))):
            for wrong in WRONG_OTHERS:
                self.refuses("other", function, CLOCK, wrong, None, None, None, *last)
            for wrong in NO_PRIMES:
                self.refuses("prime", function, TWOS, MIRROR, wrong, None, None, *last)
            for wrong in NO_NUMBERS + (0, 1, 4, 5):
                self.refuses("root", function, TWOS, MIRROR, 5, wrong, None, *last)
            for wrong in NO_TUPLES + ((), PASSES[:1], PASSES[::-1], (PASSES[0], PASSES[2]), (("sum", 0, 1),) + PASSES[1:], PASSES[1:] + PASSES[:1], list(PASSES)):
                self.refuses("plan", function, TWOS, MIRROR, 5, 2, wrong, *last)
            for wrong in NO_TUPLES + ((), (1, 2, 0), (1, 2, 0, 5), (1, 2, 0, True), [1, 2, 0, 0], (1, 2, 0, 0, 0)):
                if function is product_by_plan:
                    self.refuses("left", function, TWOS, MIRROR, 5, 2, PASSES, wrong, wrong)
                    self.refuses("right", function, TWOS, MIRROR, 5, 2, PASSES, VALUES, wrong)
                else:
                    self.refuses("values", function, TWOS, MIRROR, 5, 2, PASSES, wrong)


class Products(Case):

    def test_examples(self):
        self.same([wheel_product(5, 4, (1, 2, 0, 0), (0, 0, 0, 4)), whole_product(2, (1, 2), (0, 4))], [(3, 0, 0, 4), (8, 4)])

    def test_by_name(self):
        self.same([wheel_product(prime=2, wheel=1, one=(1,), other=(1,)), whole_product(wheel=1, one=(3,), other=(5,))], [(1,), (15,)])

    def test_beside_the_words(self):
        """The wheel need not divide the prime less 1."""
        for seed, (prime, wheel) in enumerate(((2, 1), (2, 7), (3, 4), (5, 5), (7, 12), (999983, 30), (13, 13))):
            one, other = some_values(prime, wheel, seed), some_values(prime, wheel, seed + 50)
            self.same(wheel_product(prime, wheel, one, other), tuple(value % prime for value in product_by_words(wheel, one, other)))
            one, other = some_values(10 ** 60, wheel, seed), some_values(10 ** 60, wheel, seed + 50)
            self.same(whole_product(wheel, one, other), tuple(product_by_words(wheel, one, other)))

    def test_checked(self):
        for wrong in NO_WHEELS:
            self.refuses("wheel", wheel_product, 5, wrong, None, None)
        for wrong in NO_TUPLES + ((), (1, 2, 0), (1, 2, 0, 5), (1, 2, 0, -1), (1, 2, 0, True), [1, 2, 0, 0], (1, 2, 0, 0, 0)):
            self.refuses("one", wheel_product, 5, 4, wrong, wrong)
            self.refuses("other", wheel_product, 5, 4, VALUES, wrong)
            if wrong != (1, 2, 0, 5):
                self.refuses("one", whole_product, 4, wrong, wrong)
                self.refuses("other", whole_product, 4, VALUES, wrong)


class Figures(Case):

    def test_examples(self):
        self.same([figures_by((2, 3, 4), 17), loose_product((10, 10, 10), (2, 1, 0), (5, 1, 0)), settled((10, 10, 10), (10, 7, 1))],
                  [(1, 2, 2), (10, 7, 1), (0, 8, 1)])

    def test_by_name(self):
        self.same([figures_by(ranges=(), number=0), number_by(ranges=(), figures=()), loose_product(ranges=(), one=(), other=()), settled(ranges=(), totals=())],
                  [(), 0, (), ()])

    def test_figures(self):
        for ranges in ((), (2,), (7,), (2, 3, 4), (4, 3, 2), (2, 2, 2, 2), (10, 10), (5, 6)):
            board = digit_board(ranges)
            for row in settings(board):
                number = place_in(board, row)
                self.same([figures_by(ranges, number), number_by(ranges, row)], [row, number])
        great = (10 ** 7, 12, 10 ** 9, 2 ** 20, 6, 3 ** 12, 10 ** 8, 10)
        below = mixer(4)
        for _ in range(20):
            number = below(math.prod(great))
            row = figures_by(great, number)
            self.same([number_by(great, row), len(row)], [number, 8])
            self.assertTrue(all(0 <= figure < many for figure, many in zip(row, great)))

    def test_products_of_numbers(self):
        """Settled, a loose product has the figures of the product of both numbers, modulo that of the ranges."""
        for ranges in ((), (2,), (3, 3), (2, 2, 2), (10, 10), (7,)):
            for one, other in itertools.product(range(math.prod(ranges)), repeat=2):
                left, right = figures_by(ranges, one), figures_by(ranges, other)
                loose = loose_product(ranges, left, right)
                self.same(loose, tuple(sum(left[a] * right[b] for a in range(k + 1) for b in range(k + 1) if a + b == k) for k in range(len(ranges))))
                self.same(settled(ranges, loose), figures_by(ranges, one * other % math.prod(ranges)))
        below = mixer(9)
        for ranges in ((10 ** 7,) * 8, (2,) * 8, (10 ** 59,)):
            one, other = below(math.prod(ranges)), below(math.prod(ranges))
            loose = loose_product(ranges, figures_by(ranges, one), figures_by(ranges, other))
            self.same(settled(ranges, loose), figures_by(ranges, one * other % math.prod(ranges)))

    def test_settled(self):
        for ranges in ((2, 3, 4), (5,), (10, 2), (10 ** 20, 10 ** 20, 7)):
            for totals in itertools.product((0, 1, 5, 9, 10, 23, 10 ** 60), repeat=len(ranges)):
                board = digit_board(ranges)
                number = sum(total * weight for total, (_, weight) in zip(totals, board[1])) % board[0]
                self.same(settled(ranges, totals), figures_by(ranges, number))

    def test_checked(self):
        for wrong in NO_NUMBERS + (24, 10 ** 60):
            self.refuses("number", figures_by, (2, 3, 4), wrong)
        self.refuses("number", figures_by, (), 1)
        for wrong in NO_TUPLES + ((), (0, 0), (0, 3, 0), (0, 0, True), (0, 0, -1), (0, 0, 0, 0), [0, 0, 0], (None, 0, 0)):
            self.refuses("figures", number_by, (2, 3, 4), wrong)
            self.refuses("one", loose_product, (3, 3, 3), wrong, wrong)
            self.refuses("other", loose_product, (3, 3, 3), (0, 0, 0), wrong)
        for wrong in ((2, 3), (3, 3, 2), (10, 5)):
            self.refuses("ranges", loose_product, wrong, None, None)
        for wrong in NO_TUPLES + ((), (0, 0), (0, 0, True), (0, 0, -1), (0, 0, 0, 0), [0, 0, 0], (None, 0, 0)):
            self.refuses("totals", settled, (2, 3, 4), wrong)

    def test_boards_are_numberings(self):
        self.assertTrue(all(is_one(digit_board(ranges)) for ranges in ((2, 3), (3, 3))))
        self.same(number_by((10, 10, 10), (9, 0, 9)), place_in(DIGITS, (9, 0, 9)))
