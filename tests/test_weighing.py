"""Points [88] and [89]: exchanged weights, likeness, facts."""

import itertools
import math

from tests.common import (BOTH, CLOCK, DIGITS, NO_NUMBERS, NO_TUPLES, NONE, ODD, RESTS, SIX, Case, great_numberings, grown, is_one, some_numberings)
from tests.events import depth_by_words, reach_by_words
from tests.pairs import ODDS, PAIR, WRONG_OTHERS, great_pairs, same_ranges
from tests.reference import all_orders, carries, reach, subsets
from wheelwritten.bench import Bench
from wheelwritten.carrying import handing_dials
from wheelwritten.closings import closed_sets
from wheelwritten.comparing import likeness
from wheelwritten.duals import dual_of
from wheelwritten.facts import fact_lines, facts_of
from wheelwritten.laying import is_numbering
from wheelwritten.lots import lot_of
from wheelwritten.moving import resorted, scaled
from wheelwritten.reaching import depth_of, reach_of
from wheelwritten.straights import is_straight, twin_of
from wheelwritten.weighing import can_mix, exchanged, way_to, way_to_twin

WORDS = ("same", "sorted", "twins", "lots", "wheels", "none")


def pairs_of_numberings():
    for board in some_numberings(37):
        for other in (same_ranges(board)[::4] if board[0] < 13 else [dual_of(board), twin_of(board), board]):
            yield board, other


class Weighing(Case):

    def test_examples(self):
        self.same([way_to(ODD, CLOCK), way_to_twin(CLOCK)], [(('weigh', 1, 4),), ()])
        self.same([can_mix((6, ((2, 1), (3, 2))), (6, ((2, 3), (3, 1)))), exchanged(CLOCK, ODD, (1,))], [False, ODD])

    def test_by_name(self):
        self.same([exchanged(numbering=NONE, other=NONE, dials=()), can_mix(numbering=NONE, other=NONE), way_to(numbering=NONE, other=NONE), way_to_twin(numbering=NONE)],
                  [NONE, True, (), ()])

    def test_exchanged(self):
        """Also where the result is no numbering."""
        for board, other in itertools.chain(pairs_of_numberings(), great_pairs()):
            size = len(board[1])
            for dials in subsets(range(size))[::1 if size < 4 else 13]:
                self.same(exchanged(board, other, dials), (board[0], tuple(other[1][k] if k in dials else board[1][k] for k in range(size))))
        self.same(is_numbering(exchanged((6, ((2, 1), (3, 2))), (6, ((2, 3), (3, 1))), (1,))), False)

    def test_can_mix_beside_all_orders(self):
        orders = {size: all_orders(size) for size in range(4)}
        seen = set()
        for board, other in pairs_of_numberings():
            size = len(board[1])
            if size < 4:
                rows = [set(a) | set(b) for a, b in zip(reach_by_words(board), reach_by_words(other))]
                wanted = any(all(row <= set(order[dial]) for dial, row in enumerate(rows)) for order in orders[size])
                self.same(can_mix(board, other), wanted)
                seen.add(wanted)
        self.assertEqual(seen, {True, False})

    def check_way(self, board, other):
        """The events, in any sequence, lead from board to other; each set of weights may be exchanged."""
        size = len(board[1])
        if not can_mix(board, other):
            self.refuses("other", way_to, board, other)
            return
        way = way_to(board, other)
        self.same(sorted(way), [("weigh", k, other[1][k][1]) for k in range(size) if board[1][k] != other[1][k]])
        self.assertIs(type(way), tuple)
        for events in (way, way[::-1], tuple(sorted(way, key=lambda event: event[2]))):
            self.same(Bench(board).do_all(events), other)
        least = reach([tuple(set(a) | set(b)) for a, b in zip(reach_of(board), reach_of(other))])
        for dials in subsets(range(size))[::1 if size < 5 else 17]:
            mixed = exchanged(board, other, dials)
            self.assertTrue(is_numbering(mixed))
            self.assertTrue(all(set(row) <= set(least[dial]) for dial, row in enumerate(reach_of(mixed))))

    def test_ways(self):
        for board, other in itertools.chain(pairs_of_numberings(), great_pairs()):
            self.check_way(board, other)
            self.check_way(other, board)

    def test_way_to_twin(self):
        for board in some_numberings(7) + great_numberings():
            twin = twin_of(board)
            self.same(way_to_twin(board), way_to(board, twin))
            self.same(Bench(board).do_all(way_to_twin(board)), twin)

    def test_checked(self):
        for wrong in WRONG_OTHERS:
            self.refuses("other", exchanged, CLOCK, wrong, None)
            self.refuses("other", can_mix, CLOCK, wrong)
            self.refuses("other", way_to, CLOCK, wrong)
        for wrong in NO_TUPLES + ((1, 0), (3,), (0, 0), (True,), [1], (-1,), (0, 1, 2, 3)):
            self.refuses("dials", exchanged, CLOCK, ODD, wrong)
        self.refuses("other", way_to, (6, ((2, 1), (3, 2))), (6, ((2, 3), (3, 1))))
        self.refuses("other", way_to, CLOCK, PAIR)
        self.same([can_mix(CLOCK, ODD), can_mix(ODD, ODDS)], [True, False])


def lot_by_words(board):
    """The products of the closed sets."""
    below = reach_by_words(board)
    return {math.prod(board[1][k][0] for k in part) for part in subsets(range(len(board[1]))) if all(set(below[k]) <= set(part) for k in part)}


def likeness_by_words(board, other):
    ranges = [many for many, _ in board[1]]
    holds = {"same": board == other, "sorted": board[0] == other[0] and sorted(board[1]) == sorted(other[1]),
             "twins": ranges == [many for many, _ in other[1]] and reach_by_words(board) == reach_by_words(other),
             "lots": board[0] == other[0] and lot_by_words(board) == lot_by_words(other), "wheels": board[0] == other[0], "none": True}
    return [word for word in WORDS if holds[word]][0]


class Comparing(Case):

    def test_examples(self):
        self.same([likeness(CLOCK, scaled(CLOCK, 5)), likeness(CLOCK, ODD)], ['twins', 'wheels'])

    def test_by_name(self):
        self.same([likeness(numbering=NONE, other=NONE), facts_of(numbering=NONE), fact_lines(numbering=NONE)],
                  ["same", (1, 0, 0, 1, True, ()), ("wheel 1", "size 0", "depth 0", "closed 1", "straight yes", "handing -")])

    def test_each_word(self):
        for other, word in ((CLOCK, "same"), (resorted(CLOCK, (2, 0, 1)), "sorted"), (scaled(CLOCK, 7), "twins"), (resorted(scaled(CLOCK, 5), (2, 0, 1)), "lots"),
                            (ODD, "wheels"), (RESTS, "none"), (NONE, "none"), ((12, ((12, 5),)), "wheels")):
            self.same(likeness(CLOCK, other), word)

    def test_beside_the_words(self):
        boards = some_numberings(13)
        boards += [resorted(board, tuple(range(len(board[1])))[::-1]) for board in boards[::4]] + [twin_of(board) for board in boards[::5]]
        seen = set()
        for k, board in enumerate(boards):
            for other in boards[k::3]:
                word = likeness(board, other)
                seen.add(word)
                self.same(word, likeness_by_words(board, other))
                self.same(likeness(other, board), word)
        self.assertEqual(seen, set(WORDS))

    def test_great_numberings(self):
        for board in great_numberings():
            size = len(board[1])
            turned = resorted(board, tuple(range(size))[::-1])
            twin = twin_of(board)
            self.same([likeness(board, board), likeness(board, turned)], ["same", "sorted" if size > 1 else "same"])
            self.same(likeness(board, twin), "same" if board == twin else "sorted" if sorted(board[1]) == sorted(twin[1]) else "twins")
            self.assertIn(likeness(turned, twin), ("lots", "sorted", "twins", "same"))
            self.same([likeness(board, CLOCK), likeness(CLOCK, board)], ["none", "none"])

    def test_checked(self):
        for wrong in NO_TUPLES + ((), BOTH, SIX, (3, ()), (12, ((2, 6), (3, 4), (2, 2))), [12, CLOCK[1]], (12, list(CLOCK[1])), (True, ()), (12, ((2, 6), (3, 4), (2, True)))):
            self.refuses("other", likeness, CLOCK, wrong)

    def test_facts_examples(self):
        self.same([facts_of(ODD), fact_lines(CLOCK)], [(12, 3, 2, 4, False, (1, 2)), ('wheel 12', 'size 3', 'depth 1', 'closed 5', 'straight yes', 'handing 2')])
        self.same([fact_lines(ODD)[3:], fact_lines(RESTS)[4:], fact_lines(DIGITS)[2:]],
                  [("closed 4", "straight no", "handing 1 2"), ("straight yes", "handing -"), ("depth 2", "closed 4", "straight yes", "handing 0 1")])

    def test_facts(self):
        for board in some_numberings(7):
            wheel, dials = board
            below = reach_by_words(board)
            closed = [part for part in subsets(range(len(dials))) if all(set(below[k]) <= set(part) for k in part)]
            straight = all(weight == wheel // math.prod(dials[k][0] for k in below[dial] + (dial,)) for dial, (_, weight) in enumerate(dials))
            handing = tuple(k for k, row in enumerate(carries(board)) if any(row))
            wanted = (wheel, len(dials), depth_by_words(board), len(closed), straight, handing)
            self.same(facts_of(board), wanted)
            self.check_lines(board, wanted)

    def check_lines(self, board, facts):
        wheel, size, depth, closed, straight, handing = facts
        self.same(fact_lines(board), (f"wheel {wheel}", f"size {size}", f"depth {depth}", f"closed {closed}", "straight yes" if straight else "straight no",
                                      "handing " + (" ".join(map(str, handing)) or "-")))

    def test_great_facts(self):
        for board in great_numberings() + [grown((2,) * 8, seed) for seed in range(5)]:
            facts = facts_of(board)
            self.same(facts, (board[0], len(board[1]), depth_of(board), len(closed_sets(board)), is_straight(board), handing_dials(board)))
            self.same(facts[3], len(lot_of(board)))
            self.check_lines(board, facts)

    def test_numberings(self):
        self.assertTrue(all(is_one(board) for board in (CLOCK, ODD, RESTS, PAIR, ODDS)))
        for wrong in NO_NUMBERS:
            self.refuses("other", likeness, NONE, wrong)
