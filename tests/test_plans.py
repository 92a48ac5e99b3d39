"""Points [66] to [70]: rings, plans, twists, their checkers, and what [63] to [69] have as consequences."""

import itertools

from tests.common import (CLOCK, DIGITS, NO_NUMBERS, NO_TUPLES, NONE, ODD, RESTS, Case, great_numberings, is_one, mixer, small_numberings,
                          some_numberings, some_settings)
from tests.pairs import ODDS, PAIR, WRONG_OTHERS, great_pairs, same_ranges
from tests.reference import (cross, exponent_at, fewest_gaps, is_right, is_whole, joins, longest_join_row, plan_verdict, subsets, summed)
from wheelwritten.duals import dual_of, fewest_terms, lean_of
from wheelwritten.errors import InvalidPaper, Ringed
from wheelwritten.joinrings import is_ringed, lets_ring, ring_of
from wheelwritten.layings import all_layings
from wheelwritten.planchecker import lets_plan
from wheelwritten.plankinds import exponent_of, how_many_twists, is_pass, is_plan, sums_of
from wheelwritten.planning import is_along, layers_of, plan_along, plan_of, plan_turned
from wheelwritten.reaching import depth_of
from wheelwritten.twisting import apart_joins, fewest_along, fewest_twists, lets_row, twist_row

PLAN = (("sum", 0, 6), ("sum", 1, 8), ("twist", ((0, 2, 3), (1, 2, 2))), ("sum", 2, 6))
NO_PASSES = NO_TUPLES + (
    (), ("sum",), ("sum", 0), ("sum", 0, 6, 0), ("Sum", 0, 6), ("twist", 0, 6), ("twist",), ("twist", (), ()), (0, "sum", 6), (None, 0, 0),
    ["sum", 0, 6], ("sum", 3, 6), ("sum", -1, 6), ("sum", True, 6), ("sum", "0", 6), ("sum", 0, 12), ("sum", 0, -1), ("sum", 0, True),
    ("sum", 0, None), ("twist", []), ("twist", None), ("twist", ((0, 2),)), ("twist", ((0, 2, 3, 4),)), ("twist", ([0, 2, 3],)),
    ("twist", (0, 2, 3)), ("twist", [(0, 2, 3)]), ("twist", ((2, 0, 3),)), ("twist", ((0, 0, 3),)), ("twist", ((0, 3, 3),)),
    ("twist", ((-1, 2, 3),)), ("twist", ((0, 2, 0),)), ("twist", ((0, 2, 12),)), ("twist", ((0, 2, -1),)), ("twist", ((0, 2, True),)),
    ("twist", ((False, 2, 3),)), ("twist", ((0, True, 3),)), ("twist", ((0, 2, 3), (0, 1, 3))), ("twist", ((0, 2, 3), (0, 2, 3))),
    ("twist", ((0, 2, 3), (0, 2, 4))), ("twist", ((0, 2, 3), None)), (("sum",), 0, 6), ("", 0, 6), ("sum", (0,), 6))
NO_PLANS = NO_TUPLES + ((), PLAN[:3], PLAN + (PLAN[0],), list(PLAN), PLAN + (None,), (PLAN,), ("sum", 0, 6), PLAN[0],
                        PLAN[:2] + (("twist", ((0, 2, 0),)),) + PLAN[3:], PLAN[:3] + (("sum", 2, True),), PLAN[1:] + PLAN[1:2])


def pairs_of_numberings(step):
    """Small numberings beside others with the same ranges, ringed ones among them."""
    for board in some_numberings(step):
        others = same_ranges(board) if board[0] < 13 else [board]
        for other in others[::5] + [dual_of(board), lean_of(board)]:
            yield board, other


def partners(step):
    """Small and great numberings beside others with which there is no ring."""
    for board, other in itertools.chain(pairs_of_numberings(step), great_pairs(), ((board, lean_of(board)) for board in great_numberings())):
        if longest_join_row(len(board[1]), joins(board, other)) is not None:
            yield board, other


def checked_pairs(board, other):
    """The pairs of settings at which exponents are looked at: all of them on a small wheel."""
    if board[0] < 17:
        return None
    rows = some_settings(board, 6) + [tuple(many - 1 for many, _ in board[1])]
    ones = [tuple(int(k == dial) for k in range(len(board[1]))) for dial in range(len(board[1]))]
    return list(itertools.product(rows[-3:] + ones, repeat=2)) + [(row, row) for row in rows]


def is_ring(pairs, ring):
    return len(set(ring)) == len(ring) >= 2 and all((ring[k - 1], ring[k]) in pairs for k in range(len(ring)))


class Rings(Case):

    def test_example(self):
        self.same(lets_ring(CLOCK, CLOCK, (0, 2)), 2)

    def test_by_name(self):
        self.same([ring_of(numbering=NONE, other=NONE), is_ringed(numbering=NONE, other=NONE), lets_ring(numbering=CLOCK, other=CLOCK, thing=(2, 0))],
                  [None, False, 2])

    def test_rings(self):
        ringed = 0
        for board, other in itertools.chain(pairs_of_numberings(11), great_pairs()):
            pairs = joins(board, other)
            steps = longest_join_row(len(board[1]), pairs)
            ring = ring_of(board, other)
            self.same(is_ringed(board, other), steps is None)
            self.assertEqual(ring is not None, steps is None)
            if ring is not None:
                ringed += 1
                self.assertIs(type(ring), tuple)
                self.assertTrue(is_ring(pairs, ring))
                self.same(lets_ring(board, other, ring), len(ring))
        self.assertGreater(ringed, 20)

    def test_all_rows_on_small_boards(self):
        for board, other in ((CLOCK, CLOCK), (CLOCK, PAIR), (DIGITS, DIGITS), (ODD, CLOCK)):
            pairs = joins(board, other)
            for many in range(5):
                for row in itertools.product(range(3), repeat=many):
                    again = [k for k in range(many) if row[k] in row[:k]]
                    loose = [k for k in range(many) if (row[k], row[(k + 1) % many]) not in pairs]
                    if many < 2:
                        self.rejects("shape", -1, lets_ring, board, other, row)
                    elif again:
                        self.rejects("dial", again[0], lets_ring, board, other, row)
                    elif loose:
                        self.rejects("joined", loose[0], lets_ring, board, other, row)
                    else:
                        self.same(lets_ring(board, other, row), many)

    def test_rejects(self):
        for wrong in NO_TUPLES + ((), (0,), [0, 2]):
            self.rejects("shape", -1, lets_ring, CLOCK, CLOCK, wrong)
        for wrong in NO_NUMBERS + (3, (0, 2)):
            self.rejects("dial", 0, lets_ring, CLOCK, CLOCK, (wrong, 2))
            self.rejects("dial", 1, lets_ring, CLOCK, CLOCK, (0, wrong, wrong))
        self.rejects("dial", 2, lets_ring, CLOCK, CLOCK, (0, 1, 3))
        self.rejects("joined", 1, lets_ring, CLOCK, PAIR, (2, 0))
        self.rejects("joined", 0, lets_ring, CLOCK, PAIR, (0, 2))
        self.rejects("shape", -1, lets_ring, NONE, NONE, ())

    def test_checked(self):
        for wrong in WRONG_OTHERS:
            for function in (ring_of, is_ringed):
                self.refuses("other", function, CLOCK, wrong)
            self.refuses("other", lets_ring, CLOCK, wrong, None)


class Kinds(Case):

    def test_examples(self):
        self.same(exponent_of(CLOCK, PLAN, (1, 1, 1), (1, 0, 1)), 3)
        self.same([sums_of(CLOCK, PLAN), how_many_twists(CLOCK, PLAN), is_plan(CLOCK, PLAN)], [(0, 1, 2), 1, True])
        self.same([is_pass(CLOCK, single) for single in PLAN], [True] * 4)

    def test_by_name(self):
        self.same([is_pass(numbering=CLOCK, thing=PLAN[0]), is_plan(numbering=NONE, thing=()), sums_of(numbering=NONE, plan=()),
                   how_many_twists(numbering=NONE, plan=(("twist", ()),)), exponent_of(numbering=NONE, plan=(), one=(), other=())],
                  [True, True, (), 1, 0])

    def test_passes(self):
        for single in (("sum", 0, 0), ("sum", 2, 11), ("twist", ()), ("twist", ((0, 1, 1),)), ("twist", ((0, 1, 11), (0, 2, 1), (1, 2, 5)))):
            self.same(is_pass(CLOCK, single), True)
        for wrong in NO_PASSES:
            self.same(is_pass(CLOCK, wrong), False)
        self.same([is_pass(NONE, ("twist", ())), is_pass(NONE, ("sum", 0, 0)), is_pass((2, ((2, 1),)), ("sum", 0, 1))], [True, False, True])

    def test_plans(self):
        for plan in (PLAN, PLAN[::-1], PLAN[:2] + PLAN[3:], PLAN + (("twist", ()),) * 2, (("sum", 1, 0), ("sum", 2, 0), ("sum", 0, 0))):
            self.same(is_plan(CLOCK, plan), True)
            self.same([sums_of(CLOCK, plan), how_many_twists(CLOCK, plan)],
                      [tuple(single[1] for single in plan if len(single) == 3), len([single for single in plan if len(single) == 2])])
        for wrong in NO_PLANS:
            self.same(is_plan(CLOCK, wrong), False)
        for wrong in NO_PASSES:
            self.same([is_plan(CLOCK, PLAN + (wrong,)), is_plan(CLOCK, (wrong,) + PLAN)], [False, False])

    def test_exponents(self):
        """Also of plans that are not right."""
        plans = [PLAN, PLAN[::-1], (("twist", ((0, 1, 5), (1, 2, 7))),) + PLAN + (("twist", ((0, 2, 11),)),), (PLAN[3], PLAN[2], PLAN[0], PLAN[2], PLAN[1])]
        rows = list(itertools.product(range(2), range(3), range(2)))
        for plan in plans:
            for d, c in itertools.product(rows, repeat=2):
                self.same(exponent_of(CLOCK, plan, d, c), exponent_at(CLOCK, plan, d, c))
        for board in great_numberings()[::3]:
            plan = plan_of(board, dual_of(board))
            for d, c in itertools.product(some_settings(board, 3), repeat=2):
                self.same(exponent_of(board, plan, d, c), exponent_at(board, plan, d, c))

    def test_checked(self):
        for wrong in NO_PLANS:
            self.refuses("plan", sums_of, CLOCK, wrong)
            self.refuses("plan", how_many_twists, CLOCK, wrong)
            self.refuses("plan", exponent_of, CLOCK, wrong, None, None)
            self.refuses("plan", plan_turned, CLOCK, wrong)
        for wrong in NO_TUPLES + ((), (0, 0), (0, 0, 2), (0, 0, True), (0, 0, 0, 0), [0, 0, 0], (0, -1, 0)):
            self.refuses("one", exponent_of, CLOCK, PLAN, wrong, None)
            self.refuses("other", exponent_of, CLOCK, PLAN, (0, 0, 0), wrong)


class Plans(Case):

    def test_examples(self):
        self.same([layers_of(CLOCK, PAIR), plan_along(CLOCK, PAIR, (1, 0, 2))],
                  [((0, 1), (2,)), (('sum', 1, 8), ('sum', 0, 6), ('twist', ((0, 2, 3), (1, 2, 2))), ('sum', 2, 6))])
        self.same(lets_plan(CLOCK, PAIR, PLAN), 1)
        self.rejects("cross", (2, 1), lets_plan, CLOCK, PAIR, (PLAN[0], PLAN[2], PLAN[1], PLAN[3]))
        self.same(plan_of(RESTS, RESTS), (("sum", 0, 3), ("sum", 1, 4)))

    def test_by_name(self):
        self.same([layers_of(numbering=NONE, other=NONE), plan_of(numbering=NONE, other=NONE), plan_along(numbering=NONE, other=NONE, sequence=()),
                   is_along(numbering=NONE, other=NONE, sequence=()), plan_turned(numbering=CLOCK, plan=PLAN),
                   lets_plan(numbering=NONE, other=NONE, thing=())], [(), (), (), True, PLAN[::-1], 0])

    def right(self, board, other, plan):
        """The plan is right: the checker accepts it, and so do the exponents; turned, it is right for other and board."""
        self.assertIs(type(plan), tuple)
        self.same(is_plan(board, plan), True)
        twists = lets_plan(board, other, plan)
        self.same(twists, how_many_twists(board, plan))
        pairs = checked_pairs(board, other)
        self.assertTrue(is_right(board, other, plan, pairs))
        turned = plan_turned(board, plan)
        self.same(turned, tuple(reversed(plan)))
        self.same(lets_plan(other, board, turned), twists)
        self.assertTrue(is_right(other, board, turned, pairs))
        return twists

    def test_best_plans(self):
        many = 0
        for board, other in partners(9):
            pairs = joins(board, other)
            plan = plan_of(board, other)
            self.same(self.right(board, other, plan), longest_join_row(len(board[1]), pairs))
            self.same(sum(len(single[1]) for single in plan if single[0] == "twist"), len(pairs))
            many += 1
        self.assertGreater(many, 100)

    def test_depth_many_twists_with_duals_and_lean_partners(self):
        for board in some_numberings(5) + great_numberings():
            self.same(lets_plan(board, dual_of(board), plan_of(board, dual_of(board))), depth_of(board))
            plan = plan_of(board, lean_of(board))
            self.same(lets_plan(board, lean_of(board), plan), depth_of(board))
            self.same(sum(len(single[1]) for single in plan if single[0] == "twist"), fewest_terms(board))

    def test_layers(self):
        for board, other in partners(13):
            size, pairs = len(board[1]), joins(board, other)

            def steps(dial):
                return max([steps(j) + 1 for i, j in pairs if i == dial], default=0)
            found = [steps(dial) for dial in range(size)]
            self.same(layers_of(board, other), tuple(tuple(d for d in range(size) if found[d] == h) for h in range(max(found, default=-1) + 1)))

    def test_sequences(self):
        """Sequences of sums are the whole layings that are, read backwards, whole layings of the other one."""
        for board, other in list(pairs_of_numberings(17)) + [(CLOCK, PAIR), (ODD, ODDS), (CLOCK, CLOCK)]:
            size, pairs = len(board[1]), joins(board, other)
            for sequence in itertools.permutations(range(size)):
                along = all(sequence.index(j) < sequence.index(i) for i, j in pairs)
                self.same(is_along(board, other, sequence), along)
                self.assertEqual(along, is_whole(board, sequence) and is_whole(other, sequence[::-1]))
                if not along:
                    self.refuses("sequence", plan_along, board, other, sequence)
                    continue
                plan = plan_along(board, other, sequence)
                self.same(self.right(board, other, plan), fewest_gaps(size, pairs, sequence))
                self.same(sums_of(board, plan), sequence)
                self.same(fewest_along(board, other, sequence), fewest_gaps(size, pairs, sequence))

    def test_great_sequences(self):
        for board, other in partners(200):
            for k, sequence in enumerate(itertools.islice(all_layings(board), 300)):
                if k % 60 == 0 and is_along(board, other, sequence):
                    plan = plan_along(board, other, sequence)
                    self.same(self.right(board, other, plan), fewest_gaps(len(board[1]), joins(board, other), sequence))
                    self.same(sums_of(board, plan), sequence)

    def test_no_plan_has_fewer_twists(self):
        """All tuples of passes with one twist less, any terms, for three dials; for two dials, any number of them."""
        for board, other, most in ((ODD, ODDS, 1), ((4, ((2, 1), (2, 2))), (4, ((2, 2), (2, 1))), 0), (CLOCK, PAIR, 0)):
            table, wheel, size = cross(board, other), board[0], len(board[1])
            self.assertEqual(fewest_twists(board, other), most + 1)
            pairs = list(itertools.combinations(range(size), 2))
            choices = [tuple((i, j, f) for (i, j), f in zip(pairs, factors) if f) for factors in itertools.product(range(wheel), repeat=len(pairs))]
            for sequence in itertools.permutations(range(size)):
                sums = tuple(("sum", dial, table[dial][dial]) for dial in sequence)
                for terms in (choices if most else [()]):
                    for at in range(size + 1):
                        plan = sums[:at] + (("twist", terms),) + sums[at:] if most else sums
                        self.assertIs(type(plan_verdict(board, other, plan)), tuple)

    def test_ringed(self):
        for board, other in ((CLOCK, CLOCK), (DIGITS, DIGITS), (ODD, CLOCK), (great_numberings()[0],) * 2):
            for function in (layers_of, plan_of, twist_row):
                with self.assertRaises(Ringed) as caught:
                    function(board, other)
                self.assertIs(type(caught.exception.ring), tuple)
                self.assertTrue(is_ring(joins(board, other), caught.exception.ring))
            size = len(board[1])
            self.refuses("sequence", plan_along, board, other, tuple(range(size)))

    def test_checked(self):
        for wrong in WRONG_OTHERS:
            for function in (layers_of, plan_of):
                self.refuses("other", function, CLOCK, wrong)
            for function in (plan_along, is_along):
                self.refuses("other", function, CLOCK, wrong, None)
        for wrong in NO_TUPLES + ((), (0, 1), (0, 2, 1), (2, 1, 0), (0, 1, 1), (0, 1, 3), (0, 1, 2, 2), (0, True, 2), [0, 1, 2], (-1, 1, 2), "012"):
            self.refuses("sequence", plan_along, CLOCK, PAIR, wrong)
            self.same(is_along(CLOCK, PAIR, wrong), False)


class Checker(Case):

    def verdict(self, board, other, plan):
        wanted = plan_verdict(board, other, plan)
        if type(wanted) is tuple:
            self.rejects(wanted[0], wanted[1], lets_plan, board, other, plan)
            return wanted[0]
        self.same(lets_plan(board, other, plan), wanted)
        return "right"

    def test_rejects(self):
        for wrong in NO_TUPLES + (list(PLAN),):
            self.rejects("shape", -1, lets_plan, CLOCK, PAIR, wrong)
        for wrong in NO_PASSES:
            for k in range(4):
                self.rejects("pass", k, lets_plan, CLOCK, PAIR, PLAN[:k] + (wrong, None) + PLAN[k:])
        self.rejects("sums", 0, lets_plan, CLOCK, PAIR, ())
        self.rejects("sums", 1, lets_plan, CLOCK, PAIR, (PLAN[0], ("sum", 2, 0)))
        self.rejects("sums", 2, lets_plan, CLOCK, PAIR, PLAN + PLAN[3:])
        self.rejects("sums", 0, lets_plan, CLOCK, PAIR, PLAN + PLAN)
        self.rejects("factor", 0, lets_plan, CLOCK, PAIR, (("sum", 0, 0), ("sum", 1, 7)) + PLAN[2:])
        self.rejects("factor", 2, lets_plan, CLOCK, PAIR, PLAN[:3] + (("sum", 2, 7),))
        self.rejects("cross", (2, 0), lets_plan, CLOCK, PAIR, PLAN[:2] + PLAN[3:])
        self.rejects("cross", (0, 1), lets_plan, CLOCK, PAIR, (PLAN[1], ("twist", ((0, 1, 1),)), PLAN[0]) + PLAN[2:])
        self.rejects("ahead", (0, 2), lets_plan, CLOCK, PAIR, (("twist", ((0, 2, 1), (1, 2, 5))),) + PLAN)
        self.rejects("behind", (1, 2), lets_plan, CLOCK, PAIR, PLAN + (("twist", ((1, 2, 5),)),))
        self.rejects("ahead", (1, 2), lets_plan, CLOCK, PAIR, (("twist", ((1, 2, 1),)),) + PLAN + (("twist", ((0, 1, 5),)),))
        self.same(lets_plan(NONE, NONE, (("twist", ()),)), 1)

    def test_other_right_plans(self):
        """Twists without terms, terms in two twists, and terms that take each other back."""
        for plan in (PLAN + (("twist", ()),), (("twist", ((0, 1, 5), (0, 2, 6))), ("twist", ((0, 1, 7), (0, 2, 6)))) + PLAN,
                     PLAN + (("twist", ((1, 2, 1),)), ("twist", ()), ("twist", ((1, 2, 11),))),
                     PLAN[:1] + (("twist", ((0, 2, 1),)),) + PLAN[1:2] + (("twist", ((0, 2, 2), (1, 2, 2))),) + PLAN[3:],
                     PLAN[:2] + (("twist", ((0, 2, 7),)), ("twist", ((0, 2, 8), (1, 2, 2)))) + PLAN[3:],
                     PLAN[:1] + (("twist", ((0, 1, 4),)), ("twist", ((0, 1, 8),))) + PLAN[1:]):
            self.assertTrue(is_right(CLOCK, PAIR, plan))
            self.same(lets_plan(CLOCK, PAIR, plan), len([single for single in plan if single[0] == "twist"]))

    def changed_plans(self, board, plan, below):
        """Plans with one or two changes: passes moved, factors changed, terms added or taken off."""
        size, wheel = len(board[1]), board[0]
        for _ in range(40):
            passes = list(plan)
            for _ in range(1 + below(2)):
                k = below(len(passes))
                kind = below(4)
                if kind == 0:
                    passes.insert(below(len(passes)), passes.pop(k))
                elif kind == 1 and passes[k][0] == "sum":
                    passes[k] = ("sum", passes[k][1], below(wheel))
                elif kind == 2 and size > 1:
                    i = below(size - 1)
                    term = (i, i + 1 + below(size - i - 1), 1 + below(wheel - 1))
                    at = below(len(passes))
                    passes.insert(at, ("twist", (term,)))
                    if below(2):
                        passes.insert(below(len(passes)), ("twist", (term[:2] + (wheel - term[2],),)))
                elif passes[k][0] == "twist":
                    passes[k] = ("twist", passes[k][1][1:])
            yield tuple(passes)

    def test_beside_the_words_and_all_settings(self):
        seen = {}
        for seed, (board, other) in enumerate(partners(23)):
            if not board[1]:
                continue
            for plan in self.changed_plans(board, plan_of(board, other), mixer(seed)):
                word = self.verdict(board, other, plan)
                seen[word] = seen.get(word, 0) + 1
                if word != "sums" and board[0] < 13:
                    self.assertEqual(word == "right", is_right(board, other, plan))
        self.assertEqual(set(seen), {"factor", "cross", "ahead", "behind", "right"})
        self.assertGreater(min(seen.values()), 20)

    def test_beside_a_ring(self):
        """No plan is right then, but each is looked at to the word that applies."""
        for plan in (PLAN, (("sum", 0, 0), ("sum", 1, 4), ("sum", 2, 1)), (("sum", 0, 0), ("twist", ((0, 1, 1), (0, 2, 6))), ("sum", 1, 4), ("sum", 2, 1))):
            self.verdict(CLOCK, CLOCK, plan)
        self.rejects("factor", 0, lets_plan, CLOCK, CLOCK, PLAN)
        self.rejects("cross", (0, 2), lets_plan, CLOCK, CLOCK, (("sum", 0, 0), ("sum", 1, 4), ("sum", 2, 1)))

    def test_checked(self):
        for wrong in WRONG_OTHERS:
            self.refuses("other", lets_plan, CLOCK, wrong, None)


class Twists(Case):

    def test_examples(self):
        self.same(apart_joins(ODD, ODDS, (0, 1, 2)), ((1, 0), (2, 1)))
        self.same([fewest_twists(CLOCK, PAIR), fewest_twists(ODD, ODDS), fewest_twists(RESTS, RESTS), fewest_twists(CLOCK, CLOCK)], [1, 2, 0, None])
        self.same([twist_row(ODD, ODDS), lets_row(ODD, ODDS, (2, 1, 0)), fewest_along(ODD, ODDS, (0, 1, 2))], [(2, 1, 0), 2, 2])

    def test_by_name(self):
        self.same([fewest_twists(numbering=NONE, other=NONE), twist_row(numbering=NONE, other=NONE), fewest_along(numbering=NONE, other=NONE, sequence=()),
                   apart_joins(numbering=NONE, other=NONE, sequence=()), lets_row(numbering=NONE, other=NONE, thing=())], [0, (), 0, (), 0])

    def test_rows(self):
        for board, other in itertools.chain(pairs_of_numberings(11), great_pairs()):
            pairs = joins(board, other)
            steps = longest_join_row(len(board[1]), pairs)
            self.same(fewest_twists(board, other), steps)
            if steps is not None:
                row = twist_row(board, other)
                self.assertIs(type(row), tuple)
                self.assertEqual(len(row), steps + 1 if board[1] else 0)
                self.assertTrue(all(pair in pairs for pair in zip(row, row[1:])))
                self.same(lets_row(board, other, row), steps)

    def test_no_fewer_than_depth(self):
        for board in small_numberings():
            if board[0] in (8, 12):
                for other in (dual_of(board), lean_of(board), board, ODDS if board[0] == 12 and len(board[1]) == 3 and board[1][1][0] == 3 else board):
                    steps = fewest_twists(board, other)
                    self.assertTrue(steps is None or steps >= max(depth_of(board), depth_of(other)))

    def covers(self, join, gap, sequence):
        return sequence.index(join[1]) <= gap < sequence.index(join[0])

    def test_apart_joins(self):
        for board, other in partners(19):
            size, pairs = len(board[1]), joins(board, other)
            sequence = summed(plan_of(board, other))
            for sequence in [sequence] + [row for row in itertools.islice(itertools.permutations(range(size)), 24) if is_along(board, other, row)]:
                found = apart_joins(board, other, sequence)
                self.same(list(found), sorted(set(found)))
                self.assertTrue(set(found) <= set(pairs))
                for gap in range(size):
                    self.assertLessEqual(sum(self.covers(join, gap, sequence) for join in found), 1)
                self.assertEqual(len(found), fewest_gaps(size, pairs, sequence))
                self.same(fewest_along(board, other, sequence), len(found))
                if len(pairs) < 5:
                    apart = [part for part in subsets(pairs) if all(sum(self.covers(join, gap, sequence) for join in part) < 2 for gap in range(size))]
                    self.assertEqual(max(map(len, apart)), len(found))

    def test_all_rows_of_joins(self):
        for board, other in ((CLOCK, PAIR), (CLOCK, CLOCK), (ODD, ODDS), (DIGITS, DIGITS)):
            pairs = joins(board, other)
            for many in range(5):
                for row in itertools.product(range(3), repeat=many):
                    loose = [k for k in range(1, many) if (row[k - 1], row[k]) not in pairs]
                    if loose:
                        self.rejects("joined", loose[0], lets_row, board, other, row)
                    else:
                        self.same(lets_row(board, other, row), max(many - 1, 0))

    def test_a_dial_may_come_again(self):
        self.same(lets_row(CLOCK, CLOCK, (0, 2, 0, 2, 1, 2)), 5)

    def test_rejects(self):
        for wrong in NO_TUPLES + ([0], [2, 0]):
            self.rejects("shape", -1, lets_row, CLOCK, PAIR, wrong)
        for wrong in NO_NUMBERS + (3, (2,)):
            self.rejects("dial", 0, lets_row, CLOCK, PAIR, (wrong, 0))
            self.rejects("dial", 1, lets_row, CLOCK, PAIR, (2, wrong, wrong))
        self.rejects("joined", 1, lets_row, CLOCK, PAIR, (0, 2, 7))
        self.rejects("joined", 1, lets_row, CLOCK, PAIR, (2, 2))
        self.rejects("dial", 2, lets_row, CLOCK, PAIR, (2, 0, 3))

    def test_checked(self):
        for wrong in WRONG_OTHERS:
            for function in (fewest_twists, twist_row):
                self.refuses("other", function, CLOCK, wrong)
            for function in (fewest_along, apart_joins, lets_row):
                self.refuses("other", function, CLOCK, wrong, None)
        for wrong in NO_TUPLES + ((), (0, 2, 1), (0, 1), (0, 1, True), (0, 1, 2, 3), [0, 1, 2]):
            self.refuses("sequence", fewest_along, CLOCK, PAIR, wrong)
            self.refuses("sequence", apart_joins, CLOCK, PAIR, wrong)
        self.refuses("sequence", fewest_along, CLOCK, CLOCK, (0, 1, 2))

    def test_rings_and_right_plans(self):
        """A right plan exists exactly if there is no ring: all plans of one-term twists between two dials."""
        for board in same_ranges((4, ((2, 2), (2, 1)))):
            for other in same_ranges(board):
                self.assertTrue(is_one(board) and is_one(other))
                table = cross(board, other)
                found = False
                for sequence in ((0, 1), (1, 0)):
                    sums = [("sum", dial, table[dial][dial]) for dial in sequence]
                    for factors in itertools.product(range(4), repeat=3):
                        twists = [("twist", ((0, 1, factor),) if factor else ()) for factor in factors]
                        plan = (twists[0], sums[0], twists[1], sums[1], twists[2])
                        try:
                            lets_plan(board, other, plan)
                        except InvalidPaper:
                            continue
                        self.assertTrue(is_right(board, other, plan))
                        found = True
                self.assertEqual(found, not is_ringed(board, other))
