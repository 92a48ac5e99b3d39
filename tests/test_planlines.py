"""Point [72]: plans as lines, and the class Tones."""

import itertools

from tests.common import (BOTH, CLOCK, NO_TUPLES, NONE, ODD, RESTS, SIX, Case, great_numberings, is_one, small_boards, some_numberings)
from tests.pairs import ODDS, PAIR, WRONG_OTHERS, same_ranges
from tests.reference import is_right, joins, longest_join_row
from wheelwritten.crossing import cross_table, joins_of
from wheelwritten.duals import dual_of
from wheelwritten.errors import InvalidRow, InvalidText, NoNumbering, Ringed
from wheelwritten.faultchecker import lets_fault
from wheelwritten.joinrings import is_ringed
from wheelwritten.mixing import come_by_joins
from wheelwritten.planlines import plan_lines, read_plan
from wheelwritten.planning import plan_along, plan_of
from wheelwritten.toneclasses import Tones
from wheelwritten.twisting import fewest_twists

PLAN = (("sum", 0, 6), ("sum", 1, 8), ("twist", ((0, 2, 3), (1, 2, 2))), ("sum", 2, 6))
LINES = ('sum 0 x6', 'sum 1 x8', 'twist 0-2 x3, 1-2 x2', 'sum 2 x6')
NO_WORDS = ("", "x", "-", "01", "00", "+1", "-1", "1.0", "1_0", "x 1", "y1", "X1", "x01", "x00", "x+1", "x-1", "xx1", "x1.", "1x", "x1;", "(1)", "sum", "twist")


class Lines(Case):

    def wrong(self, line, field, lines, board=CLOCK):
        self.raises(InvalidText, {"line": line, "field": field}, read_plan, board, lines)

    def no_row(self, row, lines, board=CLOCK):
        self.raises(InvalidRow, {"row": row}, read_plan, board, lines)

    def test_examples(self):
        self.same(plan_lines(CLOCK, PLAN + (("twist", ()),)), LINES + ('twist -',))
        self.wrong(1, 3, ("sum 0 x6", "twist 0-2 x3,"))

    def test_by_name(self):
        self.same([plan_lines(numbering=NONE, plan=()), read_plan(numbering=NONE, lines=())], [(), ()])

    def test_round_trip(self):
        plans = [(CLOCK, PLAN), (CLOCK, PLAN[::-1] + (("twist", ()),)), (NONE, (("twist", ()),)), (CLOCK, (("twist", ((0, 1, 11), (0, 2, 10), (1, 2, 1))),) + PLAN)]
        plans += [(board, plan_of(board, dual_of(board))) for board in some_numberings(23) + great_numberings()]
        for board, plan in plans:
            lines = plan_lines(board, plan)
            self.assertIs(type(lines), tuple)
            self.assertEqual(len(lines), len(plan))
            self.same(read_plan(board, lines), plan)

    def test_first_words(self):
        for text in ("", " ", "Sum 0 x6", "sums 0 x6", " sum 0 x6", "-", "0 x6", "twist, -", "sum0 x6", "twists -", "SUM", "twist-"):
            self.wrong(0, 0, (text, "sum"))
            self.wrong(4, 0, LINES + (text,))

    def test_sums(self):
        for text in ("sum", "sum ", "sum  x6", "sum x6") + tuple("sum " + word for word in NO_WORDS) + tuple("sum " + word + " x6" for word in NO_WORDS):
            self.wrong(0, 1, (text,))
        for text in ("sum 0", "sum 0 ", "sum 0  x6", "sum 0 6", "sum 0 x6,", "sum 0 x6,,", "sum 0 x", "sum 0 x,") + tuple("sum 7 " + word for word in NO_WORDS):
            self.wrong(0, 2, (text,))
        for text in ("sum 0 x6 ", "sum 0 x6 x6", "sum 0 x6 -", "sum 0 x6  "):
            self.wrong(0, 3, (text, ""))

    def test_twists(self):
        for word in NO_WORDS + ("0-", "-2", "0--2", "0-2-", "0-1-2", "-0-2", "00-2", "0-02", "0-2,", "--", "-,", "0:2", "0-x", "0,2", "a-b", "0-+2", "0- 2"):
            if word != "-":
                self.wrong(0, 1, ("twist " + word,))
                self.wrong(0, 1, ("twist " + word + " x3",))
            self.wrong(0, 3, ("twist 0-2 x3, " + word,))
            self.wrong(0, 5, ("twist 9-0 x0, 1-1 x1, " + word + " x1",))
        self.wrong(0, 1, ("twist",))
        self.wrong(0, 1, ("twist  -",))
        for text in ("twist -  ", "twist - ", "twist - -", "twist - 0-2 x3", "twist 0-2", "twist 0-2 "):
            self.wrong(0, 2, (text,))
        for word in NO_WORDS + ("3", "x3,,", ",", "x,", "3,"):
            self.wrong(0, 2, ("twist 0-2 " + word,))
            self.wrong(0, 2, ("twist 0-2 " + word + " 1-2 x2",))
            self.wrong(0, 4, ("twist 0-2 x3, 1-2 " + word,))
        for text in ("twist 0-2 x3,", "twist 0-2 x3, ", "twist 0-2 x3 1-2 x2", "twist 0-2 x3 ", "twist 0-2 x3 -", "twist 0-2 x3,  1-2 x2", "twist 0-2 x3, -"):
            self.wrong(0, 3, (text,))
        self.wrong(0, 4, ("twist 0-2 x3, 1-2",))
        self.wrong(0, 5, ("twist 0-2 x3, 1-2 x2 1-2 x3",))
        self.wrong(0, 5, ("twist 0-2 x3, 1-2 x2,",))

    def test_whole_words_by_all_beginnings(self):
        """The field is found by trying which beginnings some line of the form has."""
        alphabet = ("sum", "twist", "-", "3", "x3", "x3,", "1-2")

        def goes_on(words):
            if words[:1] == ("sum",):
                return len(words) <= 3 and words[1:2] in ((), ("3",)) and words[2:3] in ((), ("x3",))
            if words[:1] != ("twist",):
                return words == ()
            if words[1:2] == ("-",):
                return len(words) == 2
            return all(word == "1-2" if k % 2 == 0 else word == "x3," or word == "x3" and k == len(words) - 2 for k, word in enumerate(words[1:]))

        def is_whole(words):
            return goes_on(words) and (len(words) == 3 if words[0] == "sum" else words[1:] == ("-",) or len(words) % 2 == 1 and words[-1] == "x3")
        read = 0
        for many in range(1, 6):
            for words in itertools.product(alphabet, repeat=many):
                text = " ".join(words)
                bad = [k for k in range(many) if not goes_on(words[:k + 1])]
                if bad or not is_whole(words):
                    self.wrong(1, bad[0] if bad else many, ("twist -", text))
                else:
                    read += 1
                    self.no_row(1 if words != ("twist", "-") else 2, ("twist -", text), RESTS)
        self.assertEqual(read, 4)

    def test_rows(self):
        self.no_row(0, ())
        self.no_row(3, LINES[:3])
        self.no_row(4, LINES[:1] + LINES[2:] + ("twist -",))
        self.no_row(4, LINES + LINES[:1])
        self.no_row(1, ("sum 0 x6", "sum 0 x6", "sum 7 x0"))
        for text in ("sum 3 x6", "sum 0 x12", "sum 10000000000000000000000 x1", "twist 2-0 x3", "twist 0-0 x3", "twist 0-3 x3", "twist 0-2 x0", "twist 0-2 x12",
                     "twist 1-2 x2, 0-2 x3", "twist 0-2 x3, 0-2 x3", "twist 0-2 x3, 0-2 x4"):
            self.no_row(0, (text,) + LINES)
            self.no_row(4, LINES + (text, "sum 0 x6"))
            self.wrong(5, 0, LINES + (text, "x"))
        self.no_row(0, ("sum 0 x0",), NONE)
        self.no_row(2, ("twist -", "twist -"), RESTS)
        self.same(read_plan(RESTS, ("sum 1 x0", "twist -", "sum 0 x5")), (("sum", 1, 0), ("twist", ()), ("sum", 0, 5)))

    def test_checked(self):
        for wrong in NO_TUPLES + (list(LINES), (None,), LINES + (1,), (True,), (LINES,), "sum 0 x6"):
            self.refuses("lines", read_plan, CLOCK, wrong)
        for wrong in NO_TUPLES + ((), PLAN[:3], PLAN + PLAN[:1], list(PLAN), LINES):
            self.refuses("plan", plan_lines, CLOCK, wrong)


class TonesOfTwo(Case):

    def test_by_name(self):
        tones = Tones(board=CLOCK, other=PAIR)
        self.same([tones.table(), tones.joins(), tones.come(), tones.ringed(), tones.twists(), tones.is_right(thing=PLAN), tones.best_plan()],
                  [((6, 0, 0), (0, 8, 0), (3, 2, 6)), ((2, 0), (2, 1)), ((), (), (0, 1)), False, 1, True, PLAN])
        self.same([tones.along(sequence=(1, 0, 2)), tones.mirrored().table()], [plan_along(CLOCK, PAIR, (1, 0, 2)), cross_table(PAIR, CLOCK)])

    def test_as_the_functions(self):
        for board in some_numberings(29) + great_numberings()[::4]:
            for other in [board, dual_of(board)] + (same_ranges(board)[::11] if board[0] < 13 else []):
                tones = Tones(board, other)
                self.assertIs(type(tones.mirrored()), Tones)
                for one, first, second in ((tones, board, other), (tones.mirrored(), other, board), (tones.mirrored().mirrored(), board, other)):
                    self.same([one.table(), one.joins(), one.come(), one.ringed(), one.twists()],
                              [cross_table(first, second), joins_of(first, second), come_by_joins(first, second), is_ringed(first, second), fewest_twists(first, second)])
                if longest_join_row(len(board[1]), joins(board, other)) is None:
                    with self.assertRaises(Ringed):
                        tones.best_plan()
                    self.refuses("sequence", tones.along, tuple(range(len(board[1]))))
                    self.same(tones.is_right(tuple(("sum", dial, 0) for dial in range(len(board[1])))), False)
                    continue
                plan = tones.best_plan()
                self.same(plan, plan_of(board, other))
                self.same([tones.is_right(plan), tones.mirrored().is_right(plan[::-1]), tones.is_right(plan + (("twist", ()),))], [True] * 3)
                sequence = tuple(single[1] for single in plan if single[0] == "sum")
                self.same(tones.along(sequence), plan_along(board, other, sequence))

    def test_is_right_takes_any_value(self):
        tones = Tones(CLOCK, PAIR)
        for wrong in NO_TUPLES + ((), PLAN[:3], list(PLAN), PLAN + (None,), PLAN + PLAN, tones, (tones,), ("sum", 0, 6), PLAN[:2] + PLAN[3:]):
            self.same(tones.is_right(wrong), False)
        self.same([tones.is_right((PLAN[1], PLAN[0]) + PLAN[2:]), is_right(CLOCK, PAIR, (PLAN[1], PLAN[0]) + PLAN[2:])], [True, True])

    def test_rejects(self):
        for thing, word, at in ((None, "shape", -1), ([12, ()], "shape", -1), ((True, ()), "wheel", 0), ((12, []), "dials", 1), ((12, (2,)), "dial", 0),
                                ((12, ((2, 6), (1, 12))), "range", 1), ((12, ((2, 12),)), "weight", 0)):
            self.rejects(word, at, Tones, thing, None)
        for board in [BOTH, SIX, (3, ())] + [board for k, board in enumerate(small_boards()) if k % 97 == 0 and not is_one(board)]:
            with self.assertRaises(NoNumbering) as caught:
                Tones(board, None)
            lets_fault(board, caught.exception.fault)
        for wrong in WRONG_OTHERS:
            self.refuses("other", Tones, CLOCK, wrong)
        for wrong in NO_TUPLES + ((), (0, 2, 1), (0, 1)):
            self.refuses("sequence", Tones(ODD, ODDS).along, wrong)
