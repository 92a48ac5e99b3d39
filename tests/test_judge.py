"""Point [32]: judgeclasses."""

import itertools

from tests.common import (BOTH, CLOCK, NO_NUMBERS, NONE, ODD, RESTS, SIX, Case, great_numberings, is_one, small_boards)
from tests.reference import full_at
from wheelwritten.errors import InvalidPaper, NothingToUndo
from wheelwritten.faultchecker import lets_fault
from wheelwritten.judgeclasses import Judge


class Judges(Case):

    def test_example(self):
        judge = Judge(CLOCK)
        self.same([judge.full_now(), judge.take(1), judge.taken(), judge.full_now(), judge.back(), judge.left()],
                  [(0, 1), 4, (1,), (0,), 1, 12])

    def test_by_name(self):
        judge = Judge(board=CLOCK)
        self.same([judge.take(dial=0), judge.taken()], [6, (0,)])

    def test_made_wrong(self):
        for board, word, at in ((None, "shape", -1), ((12,), "shape", -1), ([12, ()], "shape", -1), ((0, ()), "wheel", 0),
                                ((True, ()), "wheel", 0), ((12, []), "dials", 1), ((12, (2,)), "dial", 0),
                                ((12, ((2, 6), (1, 12))), "range", 1), ((12, ((2, 12),)), "weight", 0)):
            self.raises(InvalidPaper, {"word": word, "at": at}, Judge, board)

    def test_verdict(self):
        for k, board in enumerate(small_boards()):
            if k % 5:
                continue
            judge = Judge(board)
            self.same(judge.is_one(), is_one(board))
            if is_one(board):
                self.same(judge.why_not(), None)
            else:
                self.same(lets_fault(board, judge.why_not()), judge.why_not()[0])

    def test_all_ways(self):
        for k, board in enumerate(small_boards()):
            if k % 7 == 0:
                self.walk(Judge(board), board, (), board[0])
        for board in (CLOCK, ODD, RESTS, BOTH, SIX, NONE, (3, ()), (1, ((2, 0),)), (4, ((2, 2), (4, 1)))):
            self.walk(Judge(board), board, (), board[0])

    def walk(self, judge, board, taken, left):
        """Go all ways from here, and back."""
        size = len(board[1])
        full = tuple(d for d in range(size) if d not in taken and full_at(board, d, left))
        state = [judge.taken(), judge.left(), judge.full_now(), judge.whole()]
        self.same(state, [taken, left, full, len(taken) == size and left == 1])
        for dial in range(size + 1):
            if dial in full:
                rest = left // board[1][dial][0]
                self.same(judge.take(dial), rest)
                self.walk(judge, board, taken + (dial,), rest)
                self.same(judge.back(), dial)
            else:
                self.refuses("dial", judge.take, dial)
            self.same([judge.taken(), judge.left(), judge.full_now(), judge.whole()], state)

    def test_take_checked(self):
        judge = Judge(CLOCK)
        for dial in NO_NUMBERS + (2, 3, 4):
            self.refuses("dial", judge.take, dial)
        self.same([judge.taken(), judge.left()], [(), 12])
        judge.take(1)
        for dial in NO_NUMBERS + (1, 2, 3):
            self.refuses("dial", judge.take, dial)
        self.same([judge.taken(), judge.left()], [(1,), 4])

    def test_nothing_to_undo(self):
        for board in (CLOCK, NONE, SIX):
            judge = Judge(board)
            self.raises(NothingToUndo, {"steps": 0}, judge.back)
            self.same([judge.taken(), judge.left()], [(), board[0]])
        judge = Judge(CLOCK)
        for dial in (0, 1, 2):
            judge.take(dial)
        self.same([judge.whole(), judge.left(), judge.full_now()], [True, 1, ()])
        self.same([judge.back(), judge.back(), judge.back()], [2, 1, 0])
        self.raises(NothingToUndo, {"steps": 0}, judge.back)
        self.same([judge.taken(), judge.left(), judge.whole()], [(), 12, False])

    def test_judges_apart(self):
        one, other = Judge(CLOCK), Judge(CLOCK)
        one.take(0)
        self.same([one.taken(), other.taken(), other.left()], [(0,), (), 12])

    def test_great(self):
        for board in great_numberings():
            judge = Judge(board)
            left = board[0]
            for _ in board[1]:
                dial = judge.full_now()[-1]
                left //= board[1][dial][0]
                self.same(judge.take(dial), left)
            self.same([judge.whole(), judge.left(), judge.is_one(), judge.why_not()], [True, 1, True, None])
            for dial in itertools.islice(reversed(judge.taken()), 3):
                self.same(judge.back(), dial)
