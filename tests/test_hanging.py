"""Point [38]: hanging."""

import itertools

from tests.common import (CLOCK, DIGITS, NO_NUMBERS, NO_TUPLES, NONE, ODD, RESTS, Case, great_numberings, place, settings,
                          some_numberings, some_settings)
from tests.reference import carries, hands, reach, written_in
from wheelwritten.hanging import hang_set, hang_shown, hangs, lets_hang
from wheelwritten.sums import added
from wheelwritten.writing import setting_of

ZERO = (0, 0, 0)
LAST = (0, 0, 1)


def hang_by_words(board):
    """For each pair (dial, other), whether settings as the guarantee (G3) has them exist."""
    texts = written_in(board)
    size, wheel = len(board[1]), board[0]
    found = {pair: False for pair in itertools.product(range(size), repeat=2)}
    for one, other in itertools.product(range(wheel), repeat=2):
        unlike = [dial for dial in range(size) if texts[one][dial] != texts[other][dial]]
        if len(unlike) == 1:
            for third in range(wheel):
                for dial in range(size):
                    if texts[(one + third) % wheel][dial] != texts[(other + third) % wheel][dial]:
                        found[dial, unlike[0]] = True
    return found


class Hanging(Case):

    def test_examples(self):
        self.same([hangs(CLOCK, 0, 2), hang_set(CLOCK, 0), hang_shown(CLOCK, 0, 1)], [True, (0, 2), None])
        self.same(lets_hang(CLOCK, 0, 2, (ZERO, LAST, LAST)), (0, 1))

    def test_by_name(self):
        self.same([hangs(numbering=CLOCK, dial=2, other=0), hang_set(numbering=CLOCK, dial=2),
                   hang_shown(numbering=CLOCK, dial=2, other=0), lets_hang(numbering=CLOCK, dial=0, other=2, thing=(ZERO, LAST, LAST))],
                  [False, (2,), None, (0, 1)])

    def check_shown(self, board, dial, other):
        """The triple is one of settings, and shows what it is to show."""
        thing = hang_shown(board, dial, other)
        self.assertIs(type(thing), tuple)
        one, changed, third = thing
        for setting in thing:
            self.assertIs(type(setting), tuple)
            self.assertTrue(all(type(f) is int and 0 <= f < many for f, (many, _) in zip(setting, board[1], strict=True)))
        self.assertEqual([k for k in range(len(one)) if one[k] != changed[k]], [other])
        sums = [setting_of(board, (place(board, x) + place(board, third)) % board[0]) for x in (one, changed)]
        self.assertNotEqual(sums[0][dial], sums[1][dial])
        self.same(lets_hang(board, dial, other, thing), (sums[0][dial], sums[1][dial]))

    def test_small_numberings(self):
        for board in some_numberings(3):
            below = reach(hands(board, carries(board)))
            for dial in range(len(board[1])):
                wanted = [other for other in range(len(board[1])) if other == dial or dial in below[other]]
                self.same(hang_set(board, dial), tuple(wanted))
                for other in range(len(board[1])):
                    self.same(hangs(board, dial, other), other in wanted)
                    if other in wanted:
                        self.check_shown(board, dial, other)
                    else:
                        self.assertIsNone(hang_shown(board, dial, other))

    def test_by_the_words_of_the_guarantee(self):
        for board in (CLOCK, ODD, RESTS) + tuple(some_numberings(29)):
            if board[0] <= 12:
                for (dial, other), wanted in hang_by_words(board).items():
                    self.same(hangs(board, dial, other), wanted)

    def test_handed_on_through_a_dial_between(self):
        """Dial 2 reaches dial 0 by way of dial 1 alone: its weight has the same turns with and without dial 0."""
        board = (30, ((2, 15), (3, 5), (5, 2)))
        self.same(hang_set(board, 0), (0, 1, 2))
        self.check_shown(board, 0, 2)

    def test_great_numberings(self):
        for board in great_numberings():
            below = reach(hands(board, [setting_of(board, many * weight % board[0]) for many, weight in board[1]]))
            for dial in range(len(board[1])):
                for other in range(len(board[1])):
                    wanted = other == dial or dial in below[other]
                    self.same(hangs(board, dial, other), wanted)
                    if wanted and (dial + other) % 3 == 0:
                        self.check_shown(board, dial, other)
                    elif not wanted:
                        self.assertIsNone(hang_shown(board, dial, other))

    def test_lets_hang_by_all_triples(self):
        for board in (RESTS, ODD, (4, ((2, 2), (2, 3))), (6, ((2, 3), (3, 1)))):
            rows = settings(board)
            for dial, other in itertools.product(range(len(board[1])), repeat=2):
                for one, changed, third in itertools.product(rows, rows, rows[::2]):
                    thing = (one, changed, third)
                    unlike = [k for k in range(len(one)) if k != other and one[k] != changed[k]]
                    figures = added(board, one, third)[dial], added(board, changed, third)[dial]
                    if unlike:
                        self.rejects("unlike", unlike[0], lets_hang, board, dial, other, thing)
                    elif one == changed:
                        self.rejects("unlike", other, lets_hang, board, dial, other, thing)
                    elif figures[0] == figures[1]:
                        self.rejects("same", -1, lets_hang, board, dial, other, thing)
                    else:
                        self.same(lets_hang(board, dial, other, thing), figures)

    def test_lets_hang_on_great_numberings(self):
        for board in great_numberings():
            one, third = some_settings(board, 2)
            dial = len(board[1]) - 1
            changed = one[:dial] + ((one[dial] + 1) % board[1][dial][0],)
            sums = [setting_of(board, (place(board, x) + place(board, third)) % board[0])[dial] for x in (one, changed)]
            self.same(lets_hang(board, dial, dial, (one, changed, third)), tuple(sums))

    def test_lets_hang_rejects(self):
        for thing in NO_TUPLES + ((), (ZERO, LAST), (ZERO, LAST, LAST, ZERO), [ZERO, LAST, LAST], "abc"):
            self.rejects("shape", -1, lets_hang, CLOCK, 0, 2, thing)
        for wrong in NO_TUPLES + ((), (0, 0), (0, 0, 0, 0), (2, 0, 0), (0, 3, 0), (True, 0, 0), (0, False, 0), (0, 0, -1), (0, 0, None), [0, 0, 0]):
            self.rejects("setting", 0, lets_hang, CLOCK, 0, 2, (wrong, wrong, wrong))
            self.rejects("setting", 1, lets_hang, CLOCK, 0, 2, (ZERO, wrong, wrong))
            self.rejects("setting", 2, lets_hang, CLOCK, 0, 2, (ZERO, ZERO, wrong))
        self.rejects("unlike", 0, lets_hang, CLOCK, 0, 2, (ZERO, (1, 1, 1), ZERO))
        self.rejects("unlike", 1, lets_hang, CLOCK, 0, 2, (ZERO, (0, 1, 1), ZERO))
        self.rejects("unlike", 2, lets_hang, CLOCK, 0, 2, (ZERO, ZERO, ZERO))
        self.rejects("unlike", 2, lets_hang, CLOCK, 0, 1, (ZERO, (0, 0, 1), ZERO))
        self.rejects("same", -1, lets_hang, CLOCK, 0, 2, (ZERO, LAST, ZERO))

    def test_checked(self):
        for wrong in NO_NUMBERS + (3, 4):
            self.refuses("dial", hang_set, CLOCK, wrong)
            self.refuses("dial", hangs, CLOCK, wrong, wrong)
            self.refuses("dial", hang_shown, CLOCK, wrong, wrong)
            self.refuses("dial", lets_hang, CLOCK, wrong, wrong, None)
            self.refuses("other", hangs, CLOCK, 0, wrong)
            self.refuses("other", hang_shown, CLOCK, 0, wrong)
            self.refuses("other", lets_hang, CLOCK, 0, wrong, None)
        self.refuses("dial", hang_set, NONE, 0)
        self.refuses("dial", hang_set, DIGITS, 3)
