"""Points [83] to [87]: events, steps, and the class Bench."""

import math

from tests.common import (BOTH, CLOCK, DIGITS, NO_NUMBERS, NO_TUPLES, NONE, ODD, RESTS, SIX, Case, great_numberings, grown, is_one, mixer, place, settings,
                          small_boards, some_numberings)
from tests.events import NO_EVENTS, WORDS, behind_event, depth_by_words, form_reason, reach_by_words, reason_by_words, some_event
from wheelwritten.bench import Bench
from wheelwritten.benchevents import event_kinds, is_event, is_log
from wheelwritten.benchsteps import after_event, event_reason
from wheelwritten.errors import InvalidEvent, NoNumbering, NothingToUndo
from wheelwritten.faultchecker import lets_fault
from wheelwritten.laying import is_numbering
from wheelwritten.lots import lot_of
from wheelwritten.orders import turned_about
from wheelwritten.reaching import depth_of, reach_of

EVENTS = (("below", 2, 1, (0, 9)), ("below", 0, 0, ()), ("above", 10 ** 99, 0), ("drop", 10 ** 99), ("lift", 0), ("part", 7, 7), ("merge", 3, 3), ("scale", 0),
          ("swap", 0, 0), ("weigh", 5, 5), ("twin",), ("dual",), ("most", None), ("most", 0), ("most", 10 ** 60))


class Events(Case):

    def test_examples(self):
        self.same([is_event(("below", 2, 1, (0, 9))), is_event(("most", True))], [True, False])

    def test_by_name(self):
        self.same([is_event(thing=("twin",)), is_log(thing=(NONE, ())), event_kinds()], [True, True, WORDS])

    def test_events(self):
        for event in EVENTS:
            self.same(is_event(event), True)
        for wrong in NO_EVENTS:
            self.same(is_event(wrong), False)

    def test_logs(self):
        for log in ((NONE, ()), (BOTH, EVENTS), (CLOCK, (("twin",),)), (SIX, ())):
            self.same(is_log(log), True)
        for wrong in NO_TUPLES + ((), (CLOCK,), (CLOCK, (), ()), [CLOCK, ()], (CLOCK, []), (CLOCK, None), (CLOCK, ("twin",)), ((12, ((2, 12),)), ()), (None, ()),
                                  ((True, ()), ()), (list(CLOCK), ()), (CLOCK, (("twin",), None))):
            self.same(is_log(wrong), False)
        for wrong in NO_EVENTS:
            self.same([is_log((CLOCK, (wrong,))), is_log((CLOCK, EVENTS + (wrong,)))], [False, False])


class Steps(Case):

    def reason(self, board, event, reason):
        self.same(event_reason(board, event), reason)
        with self.assertRaises(InvalidEvent) as caught:
            after_event(board, event)
        self.assertIs(caught.exception.event, event)
        self.same(caught.exception.reason, reason)

    def happens(self, board, event, after):
        self.same([event_reason(board, event), after_event(board, event)], [None, after])

    def test_examples(self):
        self.same([after_event(CLOCK, ("drop", 0)), after_event(RESTS, ("below", 2, 1, (0, 1)))], [(6, ((3, 4), (2, 1))), (12, ((2, 3), (3, 8), (2, 6)))])
        self.same([event_reason(CLOCK, ("drop", 2)), event_reason(CLOCK, ("weigh", 2, 2))], ['hands', 'places'])

    def test_by_name(self):
        self.same([after_event(numbering=NONE, event=("below", 2, 1, ())), event_reason(numbering=NONE, event=("twin",))], [(2, ((2, 1),)), None])

    def test_each_event(self):
        self.happens(RESTS, ("above", 2, 1), CLOCK)
        self.happens(CLOCK, ("lift", 2), RESTS)
        self.happens((6, ((6, 5),)), ("part", 0, 2), (6, ((2, 5), (3, 4))))
        self.happens(ODD, ("merge", 1, 0), (12, ((6, 10), (2, 1))))
        self.happens(RESTS, ("scale", 5), (6, ((2, 3), (3, 4))))
        self.happens(CLOCK, ("swap", 2, 0), (12, ((2, 1), (3, 4), (2, 6))))
        self.happens(CLOCK, ("weigh", 1, 10), ODD)
        self.happens(CLOCK, ("weigh", 1, 4), CLOCK)
        self.happens(ODD, ("twin",), (12, ((2, 6), (3, 2), (2, 1))))
        self.happens(CLOCK, ("dual",), (12, ((2, 3), (3, 2), (2, 6))))
        for many in (None, 0, 7, 10 ** 60):
            self.happens(CLOCK, ("most", many), CLOCK)
        for event in (("twin",), ("dual",), ("scale", 0), ("most", 0)):
            self.happens(NONE, event, NONE)
        self.happens(NONE, ("above", 2, 1), (2, ((2, 1),)))

    def test_reasons(self):
        """Each reason, on events to which later reasons apply, too."""
        for wrong in NO_EVENTS:
            self.reason(CLOCK, wrong, "event")
            self.reason(NONE, wrong, "event")
        for event in (("drop", 3), ("lift", 3), ("part", 3, 0), ("merge", 3, 0), ("merge", 0, 3), ("merge", 1, 1), ("swap", 0, 3), ("swap", 3, 0), ("swap", 2, 2),
                      ("weigh", 3, 12), ("drop", 10 ** 99)):
            self.reason(CLOCK, event, "dial")
        for event in (("drop", 0), ("lift", 0), ("part", 0, 2), ("merge", 0, 1), ("swap", 0, 1), ("weigh", 0, 0)):
            self.reason(NONE, event, "dial")
        for event in (("below", 1, 5, (9,)), ("below", 0, 0, ()), ("above", 1, 99), ("above", 0, 0), ("part", 1, 2), ("part", 1, 1), ("part", 1, 3), ("part", 1, 0),
                      ("part", 1, 6), ("weigh", 0, 12), ("weigh", 0, 10 ** 99)):
            self.reason(CLOCK, event, "number")
        for event in (("below", 2, 2, ()), ("below", 4, 2, (4,)), ("below", 2, 0, (0, 0, 0)), ("below", 10 ** 99, 5, ()), ("above", 2, 24), ("above", 2, 2),
                      ("above", 6, 3), ("above", 10 ** 99, 2), ("scale", 12), ("scale", 2), ("scale", 0), ("scale", 13)):
            self.reason(CLOCK, event, "unit")
        for event in (("scale", 1), ("above", 2, 2), ("below", 3, 3, ())):
            self.reason(NONE, event, "unit")
        for event in (("below", 2, 1, ()), ("below", 2, 1, (0, 0)), ("below", 2, 1, (0, 0, 0, 0)), ("below", 2, 1, (0, 2, 0)), ("below", 10 ** 99, 1, (0, 0))):
            self.reason(CLOCK, event, "lifts")
        eight = great_numberings()[0]
        self.same(len(eight[1]), 8)
        dial = [many for many, _ in eight[1]].index(12)
        for event in (("below", 10 ** 99, 1, (0,) * 8), ("above", 10 ** 99, 1), ("part", dial, 6)):
            self.reason(eight, event, "full")
        for event in (("below", 10 ** 59, 1, (0, 0, 0)), ("above", 10 ** 59, 1), ("above", 10 ** 99, 1), ("below", 10 ** 60 // 12 + 1, 1, (0, 0, 0))):
            self.reason(CLOCK, event, "large")
        self.reason(CLOCK, ("drop", 2), "hands")
        self.reason(CLOCK, ("lift", 0), "above")
        self.reason(DIGITS, ("lift", 2), "above")
        self.reason(CLOCK, ("merge", 0, 2), "apart")
        self.reason(CLOCK, ("weigh", 2, 0), "places")

    def test_up_to_sixty_figures(self):
        for board, times in ((NONE, 10 ** 60 - 1), (CLOCK, (10 ** 60 - 1) // 12), ((10 ** 59, ((10 ** 59, 1),)), 9)):
            after = (times * board[0], board[1] + ((times, board[0]),))
            self.happens(board, ("below", times, 1, (0,) * len(board[1])), after)
            self.assertLess(after[0], 10 ** 60)
            self.reason(board, ("below", times + 1, 1, (0,) * len(board[1])), "large")
            self.reason(board, ("above", times + 1, 1), "large")
            self.same(event_reason(board, ("above", times, 1)), None)

    def test_up_to_eight_dials(self):
        seven = grown((2, 3, 2, 3, 4, 5, 7), 3)
        self.same([len(after_event(seven, event)[1]) for event in (("above", 2, 1), ("below", 2, 1, (1,) * 7))], [8, 8])
        four = [dial for dial, (many, _) in enumerate(seven[1]) if many == 4][0]
        eight = after_event(seven, ("part", four, 2))
        self.assertTrue(is_numbering(eight))
        for event in (("above", 2, 1), ("below", 2, 1, (0,) * 8)):
            self.reason(eight, event, "full")
        self.reason(great_numberings()[-1], ("part", [dial for dial, (many, _) in enumerate(great_numberings()[-1][1]) if many == 2 ** 40][0], 2), "full")

    def test_beside_lists_of_all_settings(self):
        seen = {}
        for seed, board in enumerate(some_numberings(3)):
            below = mixer(seed)
            for _ in range(12):
                event = some_event(board, below)
                self.same(is_event(event), True)
                reason = reason_by_words(board, event)
                seen[reason] = seen.get(reason, 0) + 1
                if reason is not None:
                    self.reason(board, event, reason)
                else:
                    after = behind_event(board, event)
                    self.assertTrue(is_one(after))
                    self.happens(board, event, after)
        self.assertEqual(set(seen), {None, "dial", "number", "unit", "lifts", "hands", "above", "apart", "places"})
        self.assertGreater(min(seen.values()), 5)

    def test_parted_and_merged_places(self):
        """The figures of parted and merged dials, at all settings."""
        board = (24, ((6, 4), (2, 12), (2, 1)))
        after = after_event(board, ("part", 0, 3))
        for setting in settings(board):
            self.same(place(after, (setting[0] % 3, setting[0] // 3) + setting[1:]), place(board, setting))
        merged = after_event(after, ("merge", 0, 1))
        self.same(merged, board)

    def check_backs(self, board, below):
        """What takes an event back, by the consequences of [84]."""
        wheel, size = board[0], len(board[1])
        if size < 8:
            self.same(after_event(after_event(board, ("below", 3, 2, tuple(below(3) for _ in range(size)))), ("drop", size)), board)
            self.same(after_event(after_event(board, ("above", 3, 3 * below(wheel) + 1)), ("lift", size)), board)
        for dial, (many, _) in enumerate(board[1]):
            for low in [low for low in (2, 3, 4) if many % low == 0 and 1 < low < many and size < 8]:
                self.same(after_event(after_event(board, ("part", dial, low)), ("merge", dial, dial + 1)), board)
        if size > 1:
            one, other = below(size), below(size)
            if one != other:
                self.same(after_event(after_event(board, ("swap", one, other)), ("swap", one, other)), board)
        unit = next(unit for unit in (below(wheel) for _ in range(1000)) if math.gcd(unit, wheel) == 1)
        self.same(after_event(after_event(board, ("scale", unit)), ("scale", pow(unit, -1, wheel))), board)

    def check_consequences(self, board, event, after):
        """How depth, lot and reach change by an event."""
        word, change = event[0], depth_of(after) - depth_of(board)
        if word in ("below", "above", "part"):
            self.assertIn(change, (0, 1))
        elif word in ("drop", "lift", "merge"):
            self.assertIn(change, (0, -1))
        elif word != "weigh":
            self.assertEqual(change, 0)
        if word in ("scale", "swap", "twin", "most"):
            self.same(lot_of(after), lot_of(board))
        if word in ("scale", "twin", "most"):
            self.same(reach_of(after), reach_of(board))
        if word == "dual":
            self.same(reach_of(after), turned_about(len(board[1]), reach_of(board)))

    def test_consequences(self):
        for seed, board in enumerate(some_numberings(9) + great_numberings()):
            below = mixer(seed)
            self.check_backs(board, below)
            for _ in range(6):
                event = some_event(board, below)
                if event_reason(board, event) is None:
                    after = after_event(board, event)
                    self.assertTrue(is_numbering(after))
                    self.check_consequences(board, event, after)

    def test_great_numberings(self):
        for seed, board in enumerate(great_numberings()):
            below = mixer(seed)
            for _ in range(20):
                event = some_event(board, below)
                reason = event_reason(board, event)
                if form_reason(board, event) is not None:
                    self.same(reason, form_reason(board, event))
                elif reason is None:
                    self.assertTrue(is_numbering(after_event(board, event)))
                else:
                    self.assertIn(reason, ("hands", "above", "apart", "places"))


class Model:
    """What a bench is to be, by the words and lists of all settings."""

    def __init__(self, board):
        self.boards, self.events = [board], []

    def most(self):
        found = [event[1] for event in self.events if event[0] == "most"]
        return found[-1] if found else None

    def reason(self, event):
        reason = reason_by_words(self.boards[-1], event)
        if reason is None and event[0] == "most" and event[1] is not None and event[1] < depth_by_words(self.boards[-1]):
            return "deep"
        if reason is None and event[0] != "most" and self.most() is not None and depth_by_words(behind_event(self.boards[-1], event)) > self.most():
            return "deep"
        return reason

    def go(self, event):
        self.boards.append(behind_event(self.boards[-1], event))
        self.events.append(event)


class Benches(Case):

    def state(self, bench):
        return [bench.told_now(), bench.depth_now(), bench.lot_now(), bench.reach_now(), bench.how_many_done(), bench.most_now(), bench.log_now()]

    def agrees(self, bench, model):
        board = model.boards[-1]
        self.same([bench.told_now(), bench.depth_now(), bench.reach_now(), bench.how_many_done(), bench.most_now(), bench.log_now()],
                  [board, depth_by_words(board), reach_by_words(board), len(model.events), model.most(), (model.boards[0], tuple(model.events))])
        self.same(bench.lot_now(), lot_of(board))

    def bars(self, bench, event, reason):
        """go and tried both refuse the event, and nothing changes."""
        ahead = self.state(bench)
        for method in (bench.go, bench.tried):
            with self.assertRaises(InvalidEvent) as caught:
                method(event)
            self.assertIs(caught.exception.event, event)
            self.same(caught.exception.reason, reason)
        self.same(bench.barred((event,)), (reason,))
        self.same(self.state(bench), ahead)

    def test_examples(self):
        bench = Bench(RESTS)
        self.same([bench.do_all((("above", 2, 1), ("most", 1))) == CLOCK, bench.barred((("weigh", 1, 10), 5))], [True, ('deep', 'event')])
        self.same([bench.undo(2) == RESTS, bench.most_now()], [True, None])

    def test_by_name(self):
        bench = Bench(board=NONE)
        self.same([bench.go(event=("below", 2, 1, ())), bench.tried(event=("twin",)), bench.barred(events=(("drop", 1),)), bench.do_all(events=(("twin",),)),
                   bench.do_all(keep=True, events=()), bench.undo(times=1), bench.undo(), self.state(bench)],
                  [(2, ((2, 1),)), (2, ((2, 1),)), ("dial",), (2, ((2, 1),)), (2, ((2, 1),)), (2, ((2, 1),)), NONE, [NONE, 0, (1,), (), 0, None, (NONE, ())]])

    def test_deep(self):
        bench = Bench(ODD)
        for many in (0, 1):
            self.bars(bench, ("most", many), "deep")
        self.same(bench.go(("most", 2)), ODD)
        self.same(bench.go(("weigh", 1, 4)), CLOCK)
        self.bars(bench, ("most", 0), "deep")
        self.same(bench.go(("most", 1)), CLOCK)
        self.bars(bench, ("weigh", 1, 10), "deep")
        self.bars(bench, ("above", 2, 1), "deep")
        self.bars(bench, ("weigh", 1, 12), "number")
        self.same([bench.most_now(), bench.go(("most", None)), bench.most_now(), bench.go(("weigh", 1, 10)), bench.most_now()], [1, CLOCK, None, ODD, None])
        self.bars(bench, ("most", 1), "deep")
        self.same([bench.undo(2), bench.most_now(), bench.undo(), bench.most_now(), bench.undo(2), bench.how_many_done()], [CLOCK, 1, CLOCK, 2, ODD, 0])

    def test_most_0(self):
        bench = Bench(RESTS)
        self.same(bench.go(("most", 0)), RESTS)
        self.bars(bench, ("above", 2, 1), "deep")
        self.bars(bench, ("below", 2, 1, (0, 1)), "deep")
        self.same([bench.tried(("dual",)), bench.go(("scale", 5)), bench.most_now()], [RESTS, (6, ((2, 3), (3, 4))), 0])

    def test_walks(self):
        """Benches beside a model: each way to ask and to change, in any sequence, up to forty events."""
        seen = {}
        for seed, board in enumerate([NONE, RESTS, CLOCK, ODD, (6, ((6, 5),))] + some_numberings(17)):
            below = mixer(seed)
            bench, model = Bench(board), Model(board)
            for _ in range(45):
                self.walk(bench, model, below, seen)
                self.agrees(bench, model)
        self.assertGreater(seen["deep"], 20)
        self.assertGreater(seen[None], 300)

    def walk(self, bench, model, below, seen):
        events = tuple(some_event(model.boards[-1], below) for _ in range(4))
        events = tuple(event for event in events if event[0] not in ("below", "above", "part") or model.boards[-1][0] < 40)[:3]
        reasons = tuple(model.reason(event) for event in events)
        self.same(bench.barred(events), reasons)
        for event, reason in zip(events[:1], reasons):
            seen[reason] = seen.get(reason, 0) + 1
            if reason is not None:
                self.bars(bench, event, reason)
            elif len(model.events) < 40:
                self.same(bench.tried(event), behind_event(model.boards[-1], event))
                self.same(bench.how_many_done(), len(model.events))
                model.go(event)
                self.same(bench.go(event), model.boards[-1])
        if below(5) == 0:
            times = below(4)
            if times > len(model.events):
                self.raises(NothingToUndo, {"steps": len(model.events)}, bench.undo, times)
            else:
                del model.boards[len(model.boards) - times:], model.events[len(model.events) - times:]
                self.same(bench.undo(times), model.boards[-1])

    def test_do_all(self):
        """Events one after another: those ahead of a barred one remain if keep is True, else none."""
        barred = 0
        for seed, board in enumerate([NONE, RESTS, CLOCK] + some_numberings(31)):
            below = mixer(seed)
            for keep in (False, True):
                bench, model, events = Bench(board), Model(board), []
                bench.go(("most", None))
                model.go(("most", None))
                wrong = None
                while len(events) < 5 and wrong is None and model.boards[-1][0] < 60:
                    event = some_event(model.boards[-1], below) if below(12) else NO_EVENTS[below(len(NO_EVENTS))]
                    events.append(event)
                    wrong = model.reason(event) if is_event(event) else "event"
                    if wrong is None:
                        model.go(event)
                ahead = self.state(bench)
                if wrong is None:
                    self.same(bench.do_all(tuple(events), keep), model.boards[-1])
                    self.agrees(bench, model)
                    continue
                barred += 1
                with self.assertRaises(InvalidEvent) as caught:
                    bench.do_all(tuple(events) + (None,), keep)
                self.assertIs(caught.exception.event, events[-1])
                self.same(caught.exception.reason, wrong)
                if keep:
                    self.agrees(bench, model)
                else:
                    self.same(self.state(bench), ahead)
        self.assertGreater(barred, 20)

    def test_do_all_without_keep(self):
        bench = Bench(CLOCK)
        with self.assertRaises(InvalidEvent):
            bench.do_all((("twin",), ("drop", 2)))
        self.same([bench.how_many_done(), bench.do_all(()), bench.do_all((), True), bench.how_many_done()], [0, CLOCK, CLOCK, 0])

    def test_undo(self):
        bench = Bench(RESTS)
        self.same(bench.undo(0), RESTS)
        for times in (1, 2, 10 ** 59):
            self.raises(NothingToUndo, {"steps": 0}, bench.undo, times)
        self.raises(NothingToUndo, {"steps": 0}, bench.undo)
        bench.do_all((("above", 2, 1), ("most", 5), ("weigh", 1, 10)))
        for times in (4, 5, 10 ** 59):
            self.raises(NothingToUndo, {"steps": 3}, bench.undo, times)
        self.same([bench.undo(0), bench.how_many_done(), bench.undo(), bench.undo(2), bench.how_many_done()], [ODD, 3, CLOCK, RESTS, 0])

    def test_great_benches(self):
        for seed, board in enumerate(great_numberings()):
            below = mixer(seed)
            bench = Bench(board)
            boards = [board]
            for _ in range(60):
                event = some_event(bench.told_now(), below)
                if len(boards) <= 40 and bench.barred((event,)) == (None,):
                    after = bench.tried(event)
                    self.same([bench.go(event), bench.told_now()], [after, after])
                    self.assertTrue(is_numbering(after))
                    self.assertTrue(bench.most_now() is None or bench.depth_now() <= bench.most_now())
                    boards.append(after)
            self.same([bench.how_many_done(), bench.log_now()[0], len(bench.log_now()[1])], [len(boards) - 1, board, len(boards) - 1])
            while len(boards) > 1:
                boards.pop()
                self.same(bench.undo(), boards[-1])

    def test_benches_do_not_share(self):
        one, other = Bench(RESTS), Bench(RESTS)
        one.go(("above", 2, 1))
        self.same([other.told_now(), other.how_many_done(), one.how_many_done()], [RESTS, 0, 1])

    def test_rejects(self):
        for thing, word, at in ((None, "shape", -1), ([12, ()], "shape", -1), ((True, ()), "wheel", 0), ((12, []), "dials", 1), ((12, (2,)), "dial", 0),
                                ((12, ((2, 6), (1, 12))), "range", 1), ((12, ((2, 12),)), "weight", 0)):
            self.rejects(word, at, Bench, thing)
        for board in [BOTH, SIX, (3, ())] + [board for k, board in enumerate(small_boards()) if k % 97 == 0 and not is_one(board)]:
            with self.assertRaises(NoNumbering) as caught:
                Bench(board)
            lets_fault(board, caught.exception.fault)

    def test_checked(self):
        bench = Bench(CLOCK)
        for wrong in NO_EVENTS:
            self.bars(bench, wrong, "event")
        for wrong in NO_TUPLES + ([("twin",)],):
            self.refuses("events", bench.barred, wrong)
            self.refuses("events", bench.do_all, wrong, wrong)
        for wrong in (0, 1, None, "", (), "True"):
            self.refuses("keep", bench.do_all, (None,), wrong)
            self.refuses("keep", bench.do_all, (), keep=wrong)
        for wrong in NO_NUMBERS:
            self.refuses("times", bench.undo, wrong)
        self.same(bench.log_now(), (CLOCK, ()))
