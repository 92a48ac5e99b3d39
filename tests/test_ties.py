"""Points [53] to [55]: ties, colouring, colourpapers."""

import itertools
import math

from tests.common import NO_NUMBERS, NO_TUPLES, Case, mixer
from tests.reference import fewest_colours as fewest_by_words, tied, ties, tree_verdict
from wheelwritten.colouring import colouring_of, fewest_colours, lets_colouring
from wheelwritten.colourpapers import colour_tree, lets_tree
from wheelwritten.errors import InvalidPaper
from wheelwritten.ties import are_tied, tie_groups, tied_with, ties_of

TRIO = (2, 6, 3)
RING = (22, 6, 15, 35, 77)
SEVEN = (2 * 13, 2 * 3, 3 * 5, 5 * 7, 7 * 11, 11 * 17, 13 * 17)
PRISM = (2 * 3 * 23, 2 * 5 * 7, 5 * 11 * 13, 3 * 11 * 17, 7 * 13 * 17, 23)
GREAT = (10 ** 7, 12, 10 ** 9 + 7, 2 ** 20, 6, 3 ** 12, 10 ** 8, 7)
SMALL = ((), (2,), (2, 3), (2, 2), TRIO, RING, SEVEN, PRISM, (2, 3, 2), (6, 10, 15), (2, 3, 5, 7, 11, 13, 17, 19), (2,) * 8, GREAT,
         (6, 10, 15, 10 ** 20, 35, 77, 2, 10 ** 25), (2, 4, 3, 9, 5, 25, 7, 49), (2, 6, 3, 5))


def some_ranges(count, seed=3):
    """Ranges of up to eight dials with any ties."""
    below = mixer(seed)
    found = []
    while len(found) < count:
        ranges = []
        for _ in range(below(9)):
            many = 1
            for prime in (2, 3, 5, 7, 11, 13):
                many *= prime ** (below(3) == 0)
            ranges.append(max(many, 2))
        found.append(tuple(ranges))
    return found


class Ties(Case):

    def test_examples(self):
        self.same((are_tied(TRIO, 0, 2), ties_of(TRIO)), (False, ((0, 1), (1, 2))))
        self.same(tie_groups((2, 6, 3, 5)), ((0, 1, 2), (3,)))

    def test_by_name(self):
        self.same([are_tied(ranges=TRIO, one=0, other=1), ties_of(ranges=()), tied_with(ranges=TRIO, dial=1), tie_groups(ranges=())],
                  [True, (), (0, 2), ()])

    def test_all(self):
        for ranges in SMALL + tuple(some_ranges(60)):
            size = len(ranges)
            self.same(ties_of(ranges), tuple(ties(ranges)))
            for one in range(size):
                self.same(tied_with(ranges, one), tuple(other for other in range(size) if other != one and math.gcd(ranges[one], ranges[other]) > 1))
                for other in range(size):
                    if one != other:
                        self.same(are_tied(ranges, one, other), tied(ranges, one, other))
            self.check_groups(ranges)

    def check_groups(self, ranges):
        groups = {dial: {dial} for dial in range(len(ranges))}
        for one, other in ties(ranges):
            both = groups[one] | groups[other]
            for dial in both:
                groups[dial] = both
        self.same(tie_groups(ranges), tuple(sorted({tuple(sorted(group)) for group in groups.values()})))

    def test_checked(self):
        for wrong in NO_NUMBERS + (3, 4):
            self.refuses("one", are_tied, TRIO, wrong, wrong)
            self.refuses("other", are_tied, TRIO, 0, wrong)
            self.refuses("dial", tied_with, TRIO, wrong)
        for dial in range(3):
            self.refuses("other", are_tied, TRIO, dial, dial)
        self.refuses("dial", tied_with, (), 0)


class Colouring(Case):

    def test_examples(self):
        self.same((ties_of(RING), fewest_colours(RING)), (((0, 1), (0, 4), (1, 2), (2, 3), (3, 4)), 3))

    def test_by_name(self):
        self.same([fewest_colours(ranges=()), colouring_of(ranges=()), lets_colouring(ranges=(), thing=())], [0, (), 0])

    def test_fewest(self):
        for ranges in SMALL + tuple(some_ranges(40)):
            if len(ranges) < 7:
                self.same(fewest_colours(ranges), fewest_by_words(ranges))
            row = colouring_of(ranges)
            many = fewest_colours(ranges)
            self.assertIs(type(row), tuple)
            self.assertEqual(len(row), len(ranges))
            self.assertEqual({type(colour) for colour in row} - {int}, set())
            self.assertEqual(sorted(set(row)), list(range(many)))
            for one, other in ties(ranges):
                self.assertNotEqual(row[one], row[other])
            self.same(lets_colouring(ranges, row), many)
        self.same([fewest_colours(SEVEN), fewest_colours((2,) * 8), fewest_colours((2, 3, 5, 7, 11, 13, 17, 19))], [3, 8, 1])

    def test_lets_colouring(self):
        for ranges in (TRIO, (2, 2), (2, 3, 2), (6, 10, 15)):
            for row in itertools.product((0, 1, 2, 10 ** 60), repeat=len(ranges)):
                equal = [(i, j) for i, j in ties(ranges) if row[i] == row[j]]
                if equal:
                    self.rejects("tied", equal[0], lets_colouring, ranges, row)
                else:
                    self.same(lets_colouring(ranges, row), len(set(row)))

    def test_shape(self):
        for wrong in NO_TUPLES + ((), (0, 1), (0, 1, 0, 1), [0, 1, 0], "010", (0, True, 0), (False, 1, 0), (0, -1, 0), (0, None, 0), (0, 1, (0,)), (0, "1", 0)):
            self.rejects("shape", -1, lets_colouring, TRIO, wrong)
        self.rejects("shape", -1, lets_colouring, (), (0,))
        self.rejects("shape", -1, lets_colouring, (), [])


def random_tree(below, names, deep):
    """A tree that is often, but not always, right in its names."""
    names = list(names)
    if deep == 0 or below(4) == 0 or len(names) < 2:
        return "clique", tuple(sorted({names[below(len(names))] for _ in range(below(6))})) if names else ()
    one, other = sorted((names[below(len(names))], names[below(len(names))]))
    rest = [name for name in names if name != other]
    return "case", one, other, random_tree(below, rest, deep - 1), random_tree(below, names, deep - 1)


class Trees(Case):

    def verdict(self, ranges, many, thing):
        try:
            return lets_tree(ranges, many, thing)
        except InvalidPaper as wrong:
            return wrong.word, wrong.at

    def test_examples(self):
        self.same(lets_tree(RING, 2, ("case", 0, 2, ("clique", (0, 3, 4)), ("clique", (0, 1, 2)))), 2)

    def test_by_name(self):
        self.same([lets_tree(ranges=(2, 2), many=1, thing=("clique", (0, 1))), colour_tree(ranges=(2,))], [1, ("clique", (0,))])

    def test_least_trees(self):
        self.same([lets_tree((2,), 0, ("clique", (0,))), lets_tree((2, 2, 2), 1, ("clique", (0, 2))), lets_tree((2, 3), 0, ("clique", (1,)))], [1, 1, 1])
        self.rejects("few", (), lets_tree, (), 0, ("clique", ()))
        self.rejects("names", (), lets_tree, (), 0, ("clique", (0,)))

    def test_random_trees(self):
        below = mixer(8)
        seen = {}
        for ranges in (RING, (2, 3, 5), (2, 2, 3), SEVEN[:5], (6, 10, 15, 7), (2, 3, 5, 6)):
            for _ in range(700):
                thing = random_tree(below, range(len(ranges)), 3)
                many = below(4)
                wanted = tree_verdict(ranges, many, thing)
                self.same(self.verdict(ranges, many, thing), wanted)
                if type(wanted) is int:
                    self.assertGreater(fewest_colours(ranges), many)
                key = wanted[0] if type(wanted) is tuple else "accepted"
                seen[key] = seen.get(key, 0) + 1
        self.assertEqual(sorted(seen), ["accepted", "few", "names", "tied", "untied"])

    def test_groups_stay_tied_when_they_grow(self):
        """A group that was tied to another one on the way is so with all that joins it."""
        ranges = (2, 3, 5, 7)
        for thing in (("case", 0, 1, ("case", 0, 2, 5, 5), ("clique", ())), ("case", 0, 2, ("case", 0, 1, 5, 5), ("clique", ())),
                      ("case", 1, 3, ("case", 1, 2, 5, 5), ("clique", ()))):
            self.same(self.verdict(ranges, 0, ("case", 1, 2, ("clique", (1,)), thing)), ("tied", (1, 0)))
        self.same(self.verdict(ranges, 0, ("case", 1, 2, ("clique", ()), 5)), ("few", (0,)))
        self.same(self.verdict(ranges, 1, ("case", 1, 2, ("case", 1, 3, ("clique", (0, 1)), 5), 5)), ("untied", (0, 0)))
        self.same(self.verdict((2, 2, 3), 1, ("case", 0, 2, ("clique", (0, 1)), ("clique", (0, 2)))), 2)
        self.same(self.verdict((2, 2, 3), 1, ("case", 1, 2, ("clique", (0, 2)), ("clique", (0, 2)))), ("names", (0,)))

    def test_shape(self):
        good = ("clique", (0, 1, 2))
        for wrong in NO_TUPLES + ((), ("clique",), ("clique", (0,), 0), ("case", 0, 2, good), ("case", 0, 2, good, good, good), ["clique", (0,)], ("Clique", (0,)),
                                  ("other", (0,)), (0, (0,)), (("clique",), (0,)), ("clique", 0, 2, good, good), ("case", (0,)), (True, (0,)),
                                  (["clique"], (0,)), (None, (0,))):
            self.rejects("shape", (), lets_tree, RING, 2, wrong)
            self.rejects("shape", (0,), lets_tree, RING, 2, ("case", 0, 2, wrong, wrong))
            self.rejects("shape", (1,), lets_tree, RING, 2, ("case", 0, 2, ("clique", (0, 3, 4)), wrong))
            self.rejects("shape", (0, 1), lets_tree, RING, 2, ("case", 0, 2, ("case", 1, 3, ("clique", (0, 1, 4)), wrong), wrong))

    def test_names(self):
        for wrong in NO_TUPLES + ((5,), (0, 0), (1, 0), (True,), (False,), (-1,), (None,), [0], ((0,),)):
            self.rejects("names", (), lets_tree, RING, 2, ("clique", wrong))
        self.rejects("names", (0,), lets_tree, RING, 2, ("case", 0, 2, ("clique", (0, 2, 3)), None))
        for wrong in NO_NUMBERS + (5, 6):
            self.rejects("names", (), lets_tree, RING, 2, ("case", wrong, 2, None, None))
            self.rejects("names", (), lets_tree, RING, 2, ("case", 0, wrong, None, None))
        for one, other in ((2, 0), (1, 1), (4, 2)):
            self.rejects("names", (), lets_tree, RING, 2, ("case", one, other, None, None))
        self.rejects("names", (0,), lets_tree, RING, 2, ("case", 0, 2, ("case", 1, 2, None, None), None))
        self.rejects("names", (1,), lets_tree, (2, 3, 5), 0, ("case", 0, 1, ("clique", (0,)), ("case", 0, True, None, None)))

    def test_tied_few_untied(self):
        self.rejects("tied", (), lets_tree, RING, 2, ("case", 0, 1, None, None))
        self.rejects("tied", (0,), lets_tree, RING, 2, ("case", 0, 2, ("case", 0, 3, None, None), None))
        self.rejects("tied", (1,), lets_tree, RING, 2, ("case", 0, 2, ("clique", (0, 3, 4)), ("case", 0, 2, None, None)))
        self.rejects("few", (), lets_tree, RING, 2, ("clique", (0, 1)))
        self.rejects("few", (), lets_tree, RING, 2, ("clique", (0, 2)))
        self.rejects("few", (), lets_tree, RING, 10 ** 60, ("clique", (0, 1, 2, 3, 4)))
        self.rejects("few", (0,), lets_tree, RING, 2, ("case", 0, 2, ("clique", ()), None))
        self.rejects("untied", (), lets_tree, RING, 2, ("clique", (0, 1, 2)))
        self.rejects("untied", (1,), lets_tree, RING, 2, ("case", 0, 2, ("clique", (0, 3, 4)), ("clique", (0, 2, 3))))
        self.rejects("untied", (1,), lets_tree, RING, 1, ("case", 0, 2, ("clique", (0, 3)), ("clique", (0, 3, 4))))

    def test_colour_trees(self):
        for ranges in SMALL + tuple(some_ranges(120, 6)):
            if ranges != ():
                many = fewest_colours(ranges)
                thing = colour_tree(ranges)
                self.assertGreaterEqual(lets_tree(ranges, many - 1, thing), 1)
                self.same(tree_verdict(ranges, many - 1, thing), lets_tree(ranges, many - 1, thing))
                self.assertLess(count_parts(thing), 5000)
                self.assertLess(depth_of(thing), 30)
        self.assertEqual(colour_tree(RING)[0], "case")
        self.assertEqual(colour_tree(SEVEN)[0], "case")

    def test_checked(self):
        for wrong in NO_NUMBERS:
            self.refuses("many", lets_tree, RING, wrong, None)
        self.refuses("ranges", colour_tree, ())


def count_parts(thing):
    return len(thing) + sum(count_parts(part) for part in thing if isinstance(part, tuple))


def depth_of(thing):
    return 1 + max([depth_of(part) for part in thing if isinstance(part, tuple)], default=0)
