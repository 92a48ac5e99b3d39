"""Points [79] to [82]: matching, throwing, nets, their checker, and the class Runner."""

import itertools

from tests.common import (BOTH, CLOCK, DIGITS, NO_INTEGERS, NO_NUMBERS, NO_TUPLES, NONE, ODD, RESTS, SIX, Case, great_numberings, grown, is_one, mixer,
                          settings, small_boards, some_numberings, some_settings)
from tests.pairs import ODDS, PAIR, WRONG_OTHERS, same_ranges
from tests.reference import carries, hands, heights, joins, longest_join_row, reach
from wheelwritten.carrying import carries_of
from wheelwritten.convolving import wheel_product
from wheelwritten.duals import dual_of, lean_of
from wheelwritten.errors import NoNumbering, Ringed
from wheelwritten.faultchecker import lets_fault
from wheelwritten.matching import agreements, matches
from wheelwritten.netchecker import lets_net
from wheelwritten.nets import gate_total, net_of, run_net
from wheelwritten.planning import plan_of
from wheelwritten.reaching import depth_of, heights_of
from wheelwritten.roots import all_roots, prime_for
from wheelwritten.runclasses import Runner
from wheelwritten.sums import added, adding_steps
from wheelwritten.throwing import throws_of
from wheelwritten.layings import all_layings
from wheelwritten.transforms import back_transform, transform

NET = (((2, ()),), ((0, ((2, 1),)), (1, ((2, 2),))))


class Matching(Case):

    def test_examples(self):
        self.same(agreements(4, (1, 2, 1, 3), (1, None, None, 3)), (2, 0, 1, 0))
        self.same([matches(4, (1, 2, 1, 3), (1, None, None, 3)), matches(4, (1, 2, 1, 2), (None, 2, None, None))], [(0,), (0, 2)])

    def test_by_name(self):
        self.same([agreements(wheel=1, one=(5,), pattern=(5,)), matches(wheel=1, one=(5,), pattern=(6,))], [(1,), ()])

    def test_all_small_patterns(self):
        for wheel in (1, 2, 3, 4):
            for one in itertools.product((0, 1, -7), repeat=wheel):
                for pattern in itertools.product((None, 0, 1, -7), repeat=wheel):
                    rows = [[pattern[r] is None or one[(r + t) % wheel] == pattern[r] for r in range(wheel)] for t in range(wheel)]
                    nones = sum(value is None for value in pattern)
                    self.same(agreements(wheel, one, pattern), tuple(sum(row) - nones for row in rows))
                    self.same(matches(wheel, one, pattern), tuple(t for t, row in enumerate(rows) if all(row)))

    def test_none_agrees_with_all_places(self):
        self.same([agreements(3, (1, 2, 3), (None,) * 3), matches(3, (1, 2, 3), (None,) * 3)], [(0, 0, 0), (0, 1, 2)])
        one = tuple(range(200))
        self.same([matches(200, one, tuple((k + 57) % 200 for k in one)), agreements(200, one, one)[:2]], [(57,), (200, 0)])
        great = (10 ** 99, -(10 ** 99))
        self.same([agreements(2, great, great), matches(2, great, (great[1], None))], [(2, 0), (1,)])

    def test_checked(self):
        for function in (agreements, matches):
            for wrong in NO_TUPLES + ((), (1, 2, 1), (1, 2, 1, 3, 4), [1, 2, 1, 3], (1, 2, 1, None), (1, True, 1, 3), (1, 2, "1", 3), (False, 2, 1, 3), "1213"):
                self.refuses("one", function, 4, wrong, wrong)
            for wrong in NO_TUPLES + ((), (1, None, 3), (1, None, None, None, 3), [1, None, None, 3], (True, None, None, 3), (1, None, "", 3), (1, False, None, 3)):
                self.refuses("pattern", function, 4, (1, 2, 1, 3), wrong)


class Throwing(Case):

    def test_examples(self):
        self.same([throws_of(4, (1, 1, 2), 2), throws_of(3, (2,), 0)], [(1, 0, 4, 4), (1, 0, 0)])

    def test_by_name(self):
        self.same(throws_of(wheel=1, faces=(0, 0), times=3), (8,))

    def test_beside_all_tuples(self):
        for wheel, faces in ((1, (0,)), (2, (0, 1)), (5, (1, 4, 4)), (6, (5, 3, 0)), (7, (2,)), (12, (1, 2, 3, 4, 5, 6))):
            for times in range(5):
                counts = [0] * wheel
                for throw in itertools.product(faces, repeat=times):
                    counts[sum(throw) % wheel] += 1
                self.same(throws_of(wheel, faces, times), tuple(counts))

    def test_greatest(self):
        ways = throws_of(200, tuple(range(12)), 40)
        self.same([len(ways), sum(ways)], [200, 12 ** 40])
        self.same(throws_of(200, (199,) * 12, 40), tuple(12 ** 40 if place == 160 else 0 for place in range(200)))

    def test_checked(self):
        for wrong in NO_TUPLES + ((), (4,), (0, 4), (0, -1), (0, True), (None,), [0], ((0,),)):
            self.refuses("faces", throws_of, 4, wrong, None)
        for wrong in NO_NUMBERS:
            self.refuses("times", throws_of, 4, (0,), wrong)


def net_by_words(board):
    """The net of a small numbering, by lists of all settings."""
    rows = carries(board)
    high = heights(reach(hands(board, rows)))
    return tuple(tuple((dial, wires_by_words(rows, dial)) for dial in range(len(high)) if high[dial] == k) for k in range(max(high, default=-1) + 1))


def wires_by_words(rows, dial):
    return tuple((i, row[dial]) for i, row in enumerate(rows) if row[dial] > 0)


def net_verdict(rows, thing):
    """How many layers tuples of gates have if they are a net, else the pair of what is wrong; gates are pairs with tuples."""
    seen, ahead = [], []
    for k, layer in enumerate(thing):
        for g, (dial, wires) in enumerate(layer):
            if type(dial) is not int or dial not in range(len(rows)) or dial in seen:
                return "dial", (k, g)
            if repr(wires) != repr(wires_by_words(rows, dial)):
                return "wires", (k, g)
            if any(i not in ahead for i, _ in wires):
                return "early", (k, g)
            seen.append(dial)
        ahead = list(seen)
    lacking = [dial for dial in range(len(rows)) if dial not in seen]
    return ("lacking", lacking[0]) if lacking else len(thing)


def layered(board, rows, below):
    """Any net for the board: dials in any layers such that their wires come from layers ahead."""
    left, layers, done = list(range(len(rows))), [], []
    while left:
        free = [dial for dial in left if all(i in done for i, _ in wires_by_words(rows, dial))]
        chosen = [dial for dial in free if below(3)] or free[:1]
        if below(2):
            chosen.reverse()
        layers.append(tuple((dial, wires_by_words(rows, dial)) for dial in chosen))
        done += chosen
        left = [dial for dial in left if dial not in chosen]
    return tuple(layers)


class Nets(Case):

    def test_examples(self):
        self.same([net_of(CLOCK), run_net(CLOCK, NET, (1, 2, 1), (0, 1, 1))], [NET, ((0, 2, 0), (1, 1, 1))])
        self.rejects("early", (0, 1), lets_net, CLOCK, (((2, ()), (0, ((2, 1),))),))
        self.same([lets_net(CLOCK, NET), gate_total(CLOCK, NET, (1, 2, 1), (0, 1, 1), 1)], [2, 5])

    def test_by_name(self):
        """Also the empty net."""
        self.same([net_of(numbering=NONE), run_net(numbering=NONE, net=(), one=(), other=()), lets_net(numbering=NONE, thing=()),
                   gate_total(numbering=CLOCK, net=NET, one=(0, 0, 1), other=(0, 0, 1), dial=2)], [(), ((), ()), 0, 2])

    def totals_by_words(self, board, rows, net, one, other):
        totals = [None] * len(rows)
        for layer in net:
            for dial, _ in layer:
                totals[dial] = one[dial] + other[dial] + sum(rows[i][dial] * (totals[i] // board[1][i][0]) for i in range(len(rows)) if rows[i][dial])
        return totals

    def check_runs(self, board, rows, net, pairs):
        for one, other in pairs:
            rests, quotients = run_net(board, net, one, other)
            self.same(rests, added(board, one, other))
            totals = self.totals_by_words(board, rows, net, one, other)
            self.same([rests, quotients], [tuple(total % many for total, (many, _) in zip(totals, board[1])),
                                           tuple(total // many for total, (many, _) in zip(totals, board[1]))])
            for dial in range(len(totals)):
                self.same(gate_total(board, net, one, other, dial), totals[dial])

    def test_small_numberings(self):
        for seed, board in enumerate(some_numberings(23)):
            rows = carries(board)
            net = net_by_words(board)
            self.same(net_of(board), net)
            pairs = list(itertools.product(settings(board), repeat=2))
            pairs = pairs[::1 + len(pairs) // 20]
            self.check_runs(board, rows, net, pairs)
            runs = [run_net(board, net, one, other) for one, other in pairs]
            for k in range(4):
                any_net = layered(board, rows, mixer(10 * seed + k))
                self.same(lets_net(board, any_net), len(any_net))
                self.assertGreaterEqual(len(any_net), depth_of(board) + 1 if board[1] else 0)
                self.same([run_net(board, any_net, one, other) for one, other in pairs], runs)

    def test_great_numberings(self):
        for seed, board in enumerate(great_numberings()):
            net = net_of(board)
            high = heights_of(board)
            self.same([lets_net(board, net), len(net)], [depth_of(board) + 1] * 2)
            self.assertEqual([[dial for dial, _ in layer] for layer in net], [[d for d in range(len(high)) if high[d] == k] for k in range(len(net))])
            pairs = list(zip(some_settings(board, 4, seed), some_settings(board, 4, seed + 1)))
            last = tuple(many - 1 for many, _ in board[1])
            self.check_runs(board, carries_of(board), net, pairs + [(last, last)])
            self.check_runs(board, carries_of(board), layered(board, carries_of(board), mixer(seed)), pairs)

    def test_totals_are_those_of_adding_steps(self):
        """A gate's total is the total of its dial when it hands on."""
        for one, other in itertools.product(settings(ODD), repeat=2):
            for laying in all_layings(ODD):
                steps = adding_steps(ODD, one, other, laying)
                for k, dial in enumerate(reversed(laying)):
                    self.same(gate_total(ODD, net_of(ODD), one, other, dial), steps[k][dial])

    def test_checked(self):
        for wrong in NO_TUPLES + ((), NET[:1], NET[::-1], NET + ((),), list(NET), ([NET[0]], NET[1]), net_of(ODD), (((2, ()),), ((0, ((2, True),)), (1, ((2, 2),))))):
            self.refuses("net", run_net, CLOCK, wrong, None, None)
            self.refuses("net", gate_total, CLOCK, wrong, None, None, None)
        for wrong in NO_TUPLES + ((), (0, 0), (0, 3, 0), (0, 0, True), [0, 0, 0]):
            self.refuses("one", run_net, CLOCK, NET, wrong, wrong)
            self.refuses("other", run_net, CLOCK, NET, (0, 0, 0), wrong)
            self.refuses("one", gate_total, CLOCK, NET, wrong, wrong, None)
            self.refuses("other", gate_total, CLOCK, NET, (0, 0, 0), wrong, None)
        for wrong in NO_NUMBERS + (3,):
            self.refuses("dial", gate_total, CLOCK, NET, (0, 0, 0), (0, 0, 0), wrong)


class NetChecker(Case):

    def test_rejects(self):
        for wrong in NO_TUPLES + (list(NET), ((),), NET + ((),), ((),) + NET, (NET[0], list(NET[1])), (None,), NET + (5,), "ab", (NET[0], "ab"), ([],)):
            self.rejects("shape", -1, lets_net, CLOCK, wrong)
        for wrong in NO_TUPLES + ((), (2,), (2, (), ()), [2, ()], ((2, ()),)):
            self.rejects("gate", (0, 0), lets_net, CLOCK, ((wrong, None), (None,)))
            self.rejects("gate", (1, 1), lets_net, CLOCK, (NET[0], (NET[1][0], wrong, None)))
        for wrong in NO_NUMBERS + (3, (2,)):
            self.rejects("dial", (0, 0), lets_net, CLOCK, (((wrong, ()), None),))
            self.rejects("dial", (1, 0), lets_net, CLOCK, (NET[0], ((wrong, None), NET[1][0])))
        self.rejects("dial", (0, 1), lets_net, CLOCK, (((2, ()), (2, ())),))
        self.rejects("dial", (1, 0), lets_net, CLOCK, (NET[0], ((2, ()),)))
        self.rejects("dial", (2, 0), lets_net, CLOCK, NET + (((0, ((2, 1),)),),))
        for wrong in NO_TUPLES + (((2, 1),), (2, 0), (None,), (((2,),),), ((2, 1), None)):
            self.rejects("wires", (0, 0), lets_net, CLOCK, (((2, wrong),), NET[1]))
        for wrong in NO_TUPLES + ((), (2, 1), ((2, 2),), ((2, True),), ((True, 1),), ([2, 1],), [(2, 1)], ((2, 1), (2, 1)), ((1, 0), (2, 1)), ((2, 1, 0),), ((2, "1"),)):
            self.rejects("wires", (1, 0), lets_net, CLOCK, (NET[0], ((0, wrong), None)))
        self.rejects("wires", (1, 0), lets_net, (12, ((2, 6), (3, 4), (2, 1))), (NET[0], ((1, ((2, 1),)),)))
        for wrong in (((False, 1),), ((0, True),), ((0, 1), (True, 0))):
            self.rejects("wires", (1, 0), lets_net, DIGITS, (((0, ()),), ((1, wrong),)))
        self.rejects("wires", (2, 0), lets_net, DIGITS, (((0, ()),), ((1, ((0, 1),)),), ((2, ((True, 1),)),)))
        self.rejects("early", (0, 0), lets_net, CLOCK, (NET[1][:1] + (None,),))
        self.rejects("early", (0, 0), lets_net, CLOCK, NET[::-1])
        self.rejects("lacking", 0, lets_net, CLOCK, ())
        self.rejects("lacking", 0, lets_net, CLOCK, NET[:1])
        self.rejects("lacking", 1, lets_net, CLOCK, (NET[0], NET[1][:1]))
        self.rejects("lacking", 1, lets_net, RESTS, (((0, ()),),))
        self.same(lets_net(RESTS, (((0, ()),), ((1, ()),))), 2)
        self.rejects("gate", (0, 0), lets_net, NONE, ((None,),))

    def test_wires_are_ascending(self):
        """Dial 0 of ODD is handed to by dials 1 and 2 of another numbering with more wires."""
        board = next(board for board in (grown((2, 3, 2, 3), seed) for seed in range(50)) if max(len(wires) for layer in net_by_words(board) for _, wires in layer) > 1)
        net = net_of(board)
        at = next((k, g) for k, layer in enumerate(net) for g, (_, wires) in enumerate(layer) if len(wires) > 1)
        layer = list(net[at[0]])
        layer[at[1]] = (layer[at[1]][0], layer[at[1]][1][::-1])
        self.rejects("wires", at, lets_net, board, net[:at[0]] + (tuple(layer),) + net[at[0] + 1:])

    def test_beside_the_words(self):
        """Changed nets: gates moved, doubled, left out, and wires changed."""
        seen = {}
        for seed, board in enumerate([CLOCK, ODD, DIGITS] + some_numberings(17) + great_numberings()[::3]):
            if not board[1]:
                continue
            below = mixer(seed)
            rows = carries_of(board)
            for _ in range(25):
                layers = [list(layer) for layer in layered(board, rows, below)]
                for _ in range(1 + below(2)):
                    k = below(len(layers))
                    g = below(len(layers[k]))
                    kind = below(5)
                    if kind == 0:
                        layers[below(len(layers))].append(layers[k][g])
                    elif kind == 1:
                        layers[below(len(layers))].insert(0, layers[k].pop(g))
                    elif kind == 2:
                        layers[k].pop(g)
                    elif kind == 3:
                        dial, wires = layers[k][g]
                        layers[k][g] = (dial, tuple((i, f + below(2)) for i, f in wires) if below(2) else wires[1:])
                    else:
                        layers[k][g] = (below(len(rows) + 1), layers[k][g][1])
                    layers = [layer for layer in layers if layer] or [[(0, ())]]
                thing = tuple(map(tuple, layers))
                wanted = net_verdict(rows, thing)
                if type(wanted) is tuple:
                    self.rejects(wanted[0], wanted[1], lets_net, board, thing)
                    seen[wanted[0]] = seen.get(wanted[0], 0) + 1
                else:
                    self.same(lets_net(board, thing), wanted)
                    seen["net"] = seen.get("net", 0) + 1
        self.assertEqual(set(seen), {"dial", "wires", "early", "lacking", "net"})
        self.assertGreater(min(seen.values()), 10)


def runner_of(board, other, seed=0):
    prime = prime_for(board[0], 10 * seed)
    roots = all_roots(prime, board[0])
    return Runner(prime, roots[seed % len(roots)], board, other)


class Runners(Case):

    def test_by_name(self):
        runner = Runner(prime=5, root=2, board=(4, ((2, 2), (2, 1))), other=(4, ((2, 1), (2, 2))))
        self.same([runner.told(), runner.net(), runner.forward(values=(1, 2, 0, 0)), runner.back(values=(3, 0, 4, 2)),
                   runner.multiply(left=(1, 2, 0, 0), right=(0, 0, 0, 4)), runner.by_plan(values=(1, 2, 0, 0)), runner.by_plan(values=(1, 2, 0, 0), plan=None),
                   runner.by_plan(plan=(('sum', 0, 2), ('twist', ((0, 1, 1),)), ('sum', 1, 2)), values=(1, 2, 0, 0))],
                  [(5, 2, (4, ((2, 2), (2, 1))), (4, ((2, 1), (2, 2)))), (((1, ()),), ((0, ((1, 1),)),)), (3, 0, 4, 2), (1, 2, 0, 0), (3, 0, 0, 4)] + [(3, 0, 4, 2)] * 3)

    def test_as_the_functions(self):
        for seed, board in enumerate(some_numberings(31) + [grown((2, 5, 2, 5, 2), 1)]):
            for other in (dual_of(board), lean_of(board), board):
                runner = runner_of(board, other, seed)
                prime, root, *boards = runner.told()
                self.same(boards, [board, other])
                self.same(runner.net(), net_of(board))
                below = mixer(seed)
                values, left = (tuple(below(prime) for _ in range(board[0])) for _ in range(2))
                wanted = transform(prime, board[0], root, values)
                self.same([runner.forward(values), runner.back(values), runner.multiply(values, left)],
                          [wanted, back_transform(prime, board[0], root, values), wheel_product(prime, board[0], values, left)])
                if longest_join_row(len(board[1]), joins(board, other)) is None:
                    with self.assertRaises(Ringed) as caught:
                        runner.by_plan(values)
                    ring = caught.exception.ring
                    self.assertTrue(all((ring[k - 1], ring[k]) in joins(board, other) for k in range(len(ring))))
                    self.refuses("values", runner.by_plan, None)
                    self.refuses("plan", runner.by_plan, values, ())
                else:
                    self.same([runner.by_plan(values), runner.by_plan(values, None), runner.by_plan(values, plan_of(board, other) + (("twist", ()),))], [wanted] * 3)

    def test_rejects(self):
        for thing, word, at in ((None, "shape", -1), ([12, ()], "shape", -1), ((True, ()), "wheel", 0), ((12, []), "dials", 1), ((12, (2,)), "dial", 0),
                                ((12, ((2, 6), (1, 12))), "range", 1), ((12, ((2, 12),)), "weight", 0)):
            self.rejects(word, at, Runner, None, None, thing, None)
        for board in [BOTH, SIX, (3, ())] + [board for k, board in enumerate(small_boards()) if k % 197 == 0 and not is_one(board)]:
            with self.assertRaises(NoNumbering) as caught:
                Runner(None, None, board, None)
            lets_fault(board, caught.exception.fault)
        for wrong in NO_NUMBERS + (0, 1, 4, 15):
            self.refuses("prime", Runner, wrong, None, CLOCK, None)
        for wrong in NO_NUMBERS + (0, 1, 3, 13):
            self.refuses("root", Runner, 13, wrong, CLOCK, None)
        self.refuses("root", Runner, 7, 3, CLOCK, None)
        for wrong in WRONG_OTHERS:
            self.refuses("other", Runner, 13, 2, CLOCK, wrong)

    def test_checked(self):
        runner = Runner(13, 2, CLOCK, PAIR)
        for wrong in NO_TUPLES + ((), (0,) * 11, (0,) * 13, (13,) * 12, (0,) * 11 + (True,), [0] * 12):
            self.refuses("values", runner.forward, wrong)
            self.refuses("values", runner.back, wrong)
            self.refuses("values", runner.by_plan, wrong, 5)
            self.refuses("left", runner.multiply, wrong, wrong)
            self.refuses("right", runner.multiply, (0,) * 12, wrong)
        for wrong in NO_INTEGERS + (0, (("sum", 0, 6), ("sum", 1, 8), ("sum", 2, 6)), plan_of(ODD, ODDS), list(plan_of(CLOCK, PAIR))):
            if wrong is not None:
                self.refuses("plan", runner.by_plan, (0,) * 12, wrong)
        self.assertTrue(all(runner_of(CLOCK, other).told()[3] == other for other in same_ranges(CLOCK)[::9]))
