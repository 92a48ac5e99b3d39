"""Points [39] to [42]: rests, odometers, changes, writtenclasses."""

import itertools

from tests.common import (BOTH, CLOCK, DIGITS, NO_INTEGERS, NO_NUMBERS, NO_TUPLES, NONE, ODD, RESTS, SIX, Case, great_numberings,
                          grown, place, settings, small_boards, some_numberings, some_places, some_settings, is_one)
from tests.reference import carries, hands, reach, written_in
from wheelwritten.carrying import carry_of
from wheelwritten.changes import changes_of, changes_table, still_dials
from wheelwritten.errors import InvalidPaper, NoNumbering
from wheelwritten.faultchecker import lets_fault
from wheelwritten.hanging import hang_set
from wheelwritten.odometers import changed, moved, next_setting, setting_ahead, trip
from wheelwritten.rests import figure_by_rest, least_rest, lets_rest, rest_shown, tells
from wheelwritten.sums import added, taken_off
from wheelwritten.writing import setting_of
from wheelwritten.writtenclasses import Written

WRONG_SETTINGS = NO_TUPLES + ((), (0, 0), (0, 0, 0, 0), (2, 0, 0), (0, 3, 0), (True, 0, 0), (0, False, 0), (0, 0, None), (-1, 0, 0), [0, 0, 0])
STEPS = (0, 1, -1, 2, 3, -4, 6, 11, 12, -25, 10 ** 60, -10 ** 59 - 7)


def divisors(many):
    return [number for number in range(1, many + 1) if many % number == 0]


class Rests(Case):

    def test_examples(self):
        self.same([least_rest(CLOCK, 0), tells(CLOCK, 1, 4), figure_by_rest(CLOCK, 1, 6, 5)], [4, False, 1])

    def test_by_name(self):
        self.same([least_rest(numbering=CLOCK, dial=2), tells(numbering=CLOCK, dial=2, many=2), figure_by_rest(numbering=CLOCK, dial=2, many=2, rest=1),
                   rest_shown(numbering=CLOCK, dial=2, many=2), lets_rest(numbering=CLOCK, dial=2, many=1, thing=(0, 1))],
                  [2, True, 1, None, (0, 1)])

    def compare(self, board, texts, dial, many):
        """All about one dial and one divisor, beside the list of all settings."""
        figures = {}
        for number, setting in enumerate(texts):
            figures.setdefault(number % many, set()).add(setting[dial])
        telling = all(len(found) == 1 for found in figures.values())
        self.same(tells(board, dial, many), telling)
        for rest in range(many):
            self.same(figure_by_rest(board, dial, many, rest), min(figures[rest]) if telling else None)
        shown = rest_shown(board, dial, many)
        if telling:
            self.assertIsNone(shown)
        else:
            self.check_shown(board, dial, many, shown)
        return telling

    def check_shown(self, board, dial, many, shown):
        self.assertIs(type(shown), tuple)
        one, other = shown
        self.assertTrue(all(type(number) is int and 0 <= number < board[0] for number in shown))
        self.assertEqual(one % many, other % many)
        figures = setting_of(board, one)[dial], setting_of(board, other)[dial]
        self.assertNotEqual(figures[0], figures[1])
        self.same(lets_rest(board, dial, many, shown), figures)

    def test_small_numberings(self):
        for board in some_numberings(5):
            texts = written_in(board)
            for dial in range(len(board[1])):
                found = [many for many in divisors(board[0]) if self.compare(board, texts, dial, many)]
                self.same(least_rest(board, dial), found[0])

    def test_great_numberings(self):
        for board in great_numberings():
            for dial in range(len(board[1])):
                least = 1
                for other in hang_set(board, dial):
                    least *= board[1][other][0]
                self.same(least_rest(board, dial), least)
                self.same([tells(board, dial, least), tells(board, dial, board[0]), rest_shown(board, dial, least)], [True, True, None])
                for number in some_places(board, 3):
                    figure = setting_of(board, number)[dial]
                    self.same([figure_by_rest(board, dial, least, number % least), figure_by_rest(board, dial, board[0], number)], [figure, figure])
                for many in (1, least // board[1][dial][0], board[0] // board[1][dial][0]):
                    if many % least:
                        self.same([tells(board, dial, many), figure_by_rest(board, dial, many, 0)], [False, None])
                        self.check_shown(board, dial, many, rest_shown(board, dial, many))

    def test_lets_rest_by_all_pairs(self):
        for board in (CLOCK, ODD, RESTS):
            texts = written_in(board)
            for dial, many in itertools.product(range(len(board[1])), divisors(board[0])):
                for one, other in itertools.product(range(board[0]), repeat=2):
                    figures = texts[one][dial], texts[other][dial]
                    if one % many != other % many:
                        self.rejects("rest", -1, lets_rest, board, dial, many, (one, other))
                    elif figures[0] == figures[1]:
                        self.rejects("same", -1, lets_rest, board, dial, many, (one, other))
                    else:
                        self.same(lets_rest(board, dial, many, (one, other)), figures)

    def test_lets_rest_rejects(self):
        for thing in NO_TUPLES + ((), (0,), (0, 1, 2), [0, 1]):
            self.rejects("shape", -1, lets_rest, CLOCK, 0, 1, thing)
        for wrong in NO_NUMBERS + (12, 13, 10 ** 60):
            self.rejects("place", 0, lets_rest, CLOCK, 0, 1, (wrong, wrong))
            self.rejects("place", 1, lets_rest, CLOCK, 0, 1, (0, wrong))

    def test_checked(self):
        for wrong in NO_NUMBERS + (3, 4):
            self.refuses("dial", least_rest, CLOCK, wrong)
            for function in (tells, rest_shown):
                self.refuses("dial", function, CLOCK, wrong, None)
            self.refuses("dial", figure_by_rest, CLOCK, wrong, None, None)
            self.refuses("dial", lets_rest, CLOCK, wrong, None, None)
        for wrong in NO_NUMBERS + (0, 5, 8, 24, 10 ** 60):
            for function in (tells, rest_shown):
                self.refuses("many", function, CLOCK, 1, wrong)
            self.refuses("many", figure_by_rest, CLOCK, 1, wrong, None)
            self.refuses("many", lets_rest, CLOCK, 1, wrong, None)
        for many in divisors(12):
            for wrong in NO_NUMBERS + (many, many + 1, 10 ** 60):
                self.refuses("rest", figure_by_rest, CLOCK, 1, many, wrong)
        self.refuses("dial", least_rest, NONE, 0)


class Odometers(Case):

    def test_examples(self):
        self.same([moved(DIGITS, (9, 0, 0), -10), list(trip(RESTS, (0, 0), 5, 3))], [(9, 9, 9), [(0, 0), (1, 1), (0, 2)]])

    def test_by_name(self):
        self.same([next_setting(numbering=RESTS, setting=(0, 0)), setting_ahead(numbering=RESTS, setting=(0, 0)),
                   moved(numbering=RESTS, setting=(0, 0), step=2), changed(numbering=RESTS, setting=(0, 0), step=2),
                   list(trip(numbering=NONE, setting=(), step=7, times=2))], [(1, 2), (1, 1), (0, 1), (1,), [(), ()]])

    def compare(self, board, setting, step, wanted):
        self.same(moved(board, setting, step), wanted)
        self.same(changed(board, setting, step), tuple(dial for dial in range(len(setting)) if setting[dial] != wanted[dial]))

    def test_small_numberings(self):
        for board in some_numberings(7):
            texts, wheel = written_in(board), board[0]
            for number, setting in enumerate(texts):
                self.same(next_setting(board, setting), texts[(number + 1) % wheel])
                self.same(setting_ahead(board, setting), texts[(number - 1) % wheel])
                if number % 4 == 0:
                    for step in STEPS:
                        self.compare(board, setting, step, texts[(number + step) % wheel])
                    self.same(list(trip(board, setting, -5, 20)), [texts[(number - 5 * k) % wheel] for k in range(20)])

    def test_great_numberings(self):
        for board in great_numberings():
            for setting in some_settings(board, 3):
                number = place(board, setting)
                for step in STEPS:
                    self.compare(board, setting, step, setting_of(board, (number + step) % board[0]))
                self.same(next_setting(board, setting), moved(board, setting, 1))
                self.same(setting_ahead(board, setting), moved(board, setting, -1))
                self.same(list(trip(board, setting, 10 ** 40 + 1, 3)),
                          [setting_of(board, (number + k * (10 ** 40 + 1)) % board[0]) for k in range(3)])

    def test_trips_of_any_length(self):
        self.same([list(trip(CLOCK, (1, 1, 1), 1, 0)), list(trip(CLOCK, (1, 1, 1), 0, 2))], [[], [(1, 1, 1), (1, 1, 1)]])
        endless = trip(CLOCK, (0, 0, 0), 1, 10 ** 60 - 1)
        self.same([next(endless), next(endless)], [(0, 0, 0), (0, 0, 1)])

    def test_checked(self):
        for wrong in WRONG_SETTINGS:
            for function in (next_setting, setting_ahead):
                self.refuses("setting", function, CLOCK, wrong)
            for function in (moved, changed):
                self.refuses("setting", function, CLOCK, wrong, None)
        for wrong in NO_INTEGERS:
            for function in (moved, changed):
                self.refuses("step", function, CLOCK, (0, 0, 0), wrong)

    def test_a_trip_is_checked_when_the_first_one_is_asked_for(self):
        for values, name in (((CLOCK, (0, 0), None, None), "setting"), ((CLOCK, (0, 0, 0), True, None), "step"),
                             ((CLOCK, (0, 0, 0), None, -1), "step"), ((CLOCK, (0, 0, 0), 1, -1), "times"), ((CLOCK, [0, 0, 0], 1, 0), "setting")):
            begun = trip(*values)
            self.refuses(name, next, begun)
        for wrong in NO_NUMBERS:
            self.refuses("times", next, trip(CLOCK, (0, 0, 0), 1, wrong))


class Changes(Case):

    def test_examples(self):
        self.same([changes_table(CLOCK, 1), still_dials(CLOCK, 4)], [(6, 6, 12), (0, 2)])

    def test_by_name(self):
        self.same([changes_of(numbering=CLOCK, dial=2, step=1), changes_table(numbering=NONE, step=1), still_dials(numbering=NONE, step=1)],
                  [12, (), ()])

    def test_small_numberings(self):
        for board in some_numberings(6):
            texts, wheel = written_in(board), board[0]
            for step in STEPS + tuple(range(4, 10)):
                wanted = [sum(texts[k][dial] != texts[(k + step) % wheel][dial] for k in range(wheel)) for dial in range(len(board[1]))]
                self.same(changes_table(board, step), tuple(wanted))
                self.same(changes_table(board, -step), tuple(wanted))
                self.same([changes_of(board, dial, step) for dial in range(len(wanted))], wanted)
                self.same(still_dials(board, step), tuple(dial for dial, count in enumerate(wanted) if count == 0))

    def test_two_hundred(self):
        board = grown((5, 2, 5, 4), 3)
        texts = written_in(board)
        self.same(changes_table(board, 77), tuple(sum(texts[k][dial] != texts[(k + 77) % 200][dial] for k in range(200)) for dial in range(4)))

    def test_still_dials_of_great_numberings(self):
        for board in great_numberings():
            below = reach(hands(board, [carry_of(board, dial) for dial in range(len(board[1]))]))
            for step in [0, board[0], 1] + [board[0] // many for many, _ in board[1]] + [-weight for _, weight in board[1]]:
                figures = setting_of(board, step % board[0])
                wanted = [dial for dial in range(len(figures))
                          if not any(figures[other] for other in range(len(figures)) if other == dial or dial in below[other])]
                self.same(still_dials(board, step), tuple(wanted))

    def test_checked(self):
        for wrong in NO_NUMBERS + (3, 4):
            self.refuses("dial", changes_of, CLOCK, wrong, None)
        for wrong in NO_INTEGERS:
            self.refuses("step", changes_of, CLOCK, 0, wrong)
            self.refuses("step", changes_table, CLOCK, wrong)
            self.refuses("step", still_dials, CLOCK, wrong)


class WrittenObjects(Case):

    def test_told(self):
        for board in (CLOCK, ODD, RESTS, NONE):
            self.same(Written(board).told(), board)
        self.same(Written(board=CLOCK).told(), CLOCK)

    def test_as_the_functions(self):
        for board in (CLOCK, ODD, RESTS) + tuple(great_numberings()[::3]):
            clock = Written(board)
            one, other = some_settings(board, 2)
            below = reach(hands(board, [carry_of(board, dial) for dial in range(len(board[1]))]))
            self.same([clock.at_place(5), clock.to_place(one), clock.plus(one, other), clock.minus(one, other)],
                      [setting_of(board, 5), place(board, one), added(board, one, other), taken_off(board, one, other)])
            for dial in range(len(board[1])):
                self.same([clock.carry(dial), clock.rest_for(dial)], [carry_of(board, dial), least_rest(board, dial)])
                for lower in range(len(board[1])):
                    self.same(clock.reaches(dial, lower), lower in below[dial])
            self.same(list(clock.trip_from(one, 7, 4)), list(trip(board, one, 7, 4)))

    def test_by_name(self):
        clock = Written(CLOCK)
        self.same([clock.at_place(place=11), clock.to_place(setting=(1, 1, 1)), clock.plus(one=(0, 0, 1), other=(0, 0, 1)),
                   clock.minus(one=(0, 0, 1), other=(0, 0, 1)), clock.carry(dial=2), clock.reaches(one=2, other=0), clock.rest_for(dial=0),
                   list(clock.trip_from(setting=(0, 0, 0), step=1, times=1))],
                  [(1, 1, 1), 11, (1, 2, 0), (0, 0, 0), (1, 2, 0), True, 4, [(0, 0, 0)]])

    def test_only_numberings(self):
        for thing, word, at in ((None, "shape", -1), ([12, ()], "shape", -1), ((True, ()), "wheel", 0), ((12, []), "dials", 1),
                                ((12, ((2, 6), (1, 12))), "range", 1), ((12, ((2, 12),)), "weight", 0), ((12, (2,)), "dial", 0)):
            self.rejects(word, at, Written, thing)
        for board in [BOTH, SIX, (3, ())] + [board for k, board in enumerate(small_boards()) if k % 37 == 0 and not is_one(board)]:
            with self.assertRaises(NoNumbering) as caught:
                Written(board)
            lets_fault(board, caught.exception.fault)
        self.assertRaises(InvalidPaper, Written, CLOCK[1])

    def test_checked(self):
        clock = Written(CLOCK)
        for wrong in NO_NUMBERS + (3, 12):
            self.refuses("one", clock.reaches, wrong, wrong)
            self.refuses("other", clock.reaches, 0, wrong)
            self.refuses("dial", clock.carry, wrong)
            self.refuses("dial", clock.rest_for, wrong)
        for wrong in NO_NUMBERS + (12,):
            self.refuses("place", clock.at_place, wrong)
        for wrong in WRONG_SETTINGS:
            self.refuses("setting", clock.to_place, wrong)
            self.refuses("one", clock.plus, wrong, wrong)
            self.refuses("one", clock.minus, wrong, wrong)
            self.refuses("other", clock.plus, (0, 0, 0), wrong)
            self.refuses("other", clock.minus, (0, 0, 0), wrong)
            self.refuses("setting", next, clock.trip_from(wrong, None, None))
        self.refuses("step", next, clock.trip_from((0, 0, 0), None, None))
        self.refuses("times", next, clock.trip_from((0, 0, 0), 1, True))

    def test_all_settings(self):
        clock = Written(ODD)
        texts = written_in(ODD)
        for one, other in itertools.product(settings(ODD), repeat=2):
            self.same(clock.plus(one, other), texts[(place(ODD, one) + place(ODD, other)) % 12])
        self.same([clock.carry(dial) for dial in range(3)], carries(ODD))
