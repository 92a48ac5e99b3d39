"""Points [90] to [92]: logs as lines and replayed, and the class Desk."""

import itertools

from tests.common import (BOTH, CLOCK, DIGITS, NO_TUPLES, NONE, ODD, RESTS, SIX, Case, great_numberings, is_one, mixer, place, settings, small_boards, some_numberings)
from tests.events import NO_EVENTS, WORDS, some_event
from wheelwritten.bench import Bench
from wheelwritten.boardlines import board_line, setting_line
from wheelwritten.desk import Desk
from wheelwritten.errors import InvalidEvent, InvalidText, NoNumbering
from wheelwritten.eventlines import event_line, log_lines
from wheelwritten.eventreadings import read_event, read_log
from wheelwritten.faultchecker import lets_fault
from wheelwritten.lotlines import lot_line, order_line
from wheelwritten.replaying import replayed

LINES = {
    ("below", 2, 1, (0, 1)): "below 2 1 0 1", ("below", 0, 0, ()): "below 0 0", ("below", 10 ** 99, 5, (7,)): "below 1" + "0" * 99 + " 5 7", ("above", 2, 1): "above 2 1",
    ("drop", 0): "drop 0", ("lift", 10): "lift 10", ("part", 0, 2): "part 0 2", ("merge", 1, 0): "merge 1 0", ("scale", 5): "scale 5", ("swap", 0, 1): "swap 0 1",
    ("weigh", 1, 10): "weigh 1 10", ("twin",): "twin", ("dual",): "dual", ("most", None): "most -", ("most", 0): "most 0", ("most", 12): "most 12"}
NUMBERS = {"above": 2, "drop": 1, "lift": 1, "part": 2, "merge": 2, "scale": 1, "swap": 2, "weigh": 2, "twin": 0, "dual": 0, "most": 1}
NO_WORDS = ("", "x", "01", "00", "+1", "-1", "1.0", "1_0", "1,", "--", "None", "(0)", "1-")
NO_TEXTS = (None, 0, True, (), ("twin",), ["twin"], -5)


def some_log(board, seed, many=8):
    below = mixer(seed)
    bench = Bench(board)
    for _ in range(4 * many):
        event = some_event(bench.told_now(), below)
        if bench.how_many_done() < many and bench.barred((event,)) == (None,):
            bench.go(event)
    return bench


class Lines(Case):

    def wrong(self, line, field, function, value):
        self.raises(InvalidText, {"line": line, "field": field}, function, value)

    def test_examples(self):
        log = (RESTS, (("below", 2, 1, (0, 1)), ("most", None), ("twin",)))
        self.same(log_lines(log), ('wheel 6: 2@3 3@2', 'below 2 1 0 1', 'most -', 'twin'))
        self.same(read_log(log_lines(log)), log)
        self.wrong(0, 3, read_event, "below 2 1 07")

    def test_by_name(self):
        self.same([event_line(event=("twin",)), log_lines(log=(NONE, ())), read_event(text="dual"), read_log(lines=("wheel 1:",)), replayed(log=(NONE, ())).told_now()],
                  ["twin", ("wheel 1:",), ("dual",), (NONE, ()), NONE])

    def test_event_lines(self):
        self.assertEqual({event[0] for event in LINES}, set(WORDS))
        for event, line in LINES.items():
            self.same([event_line(event), read_event(line)], [line, event])

    def test_first_fields(self):
        for text in ("", " ", " twin", "Twin", "twins", "tw", "-", "wheel 6: 2@3 3@2", "undo", "below,", "5", "try twin", "\"twin\"", "twin;"):
            self.wrong(0, 0, read_event, text)

    def test_all_beginnings(self):
        """For each word the first field that is lacking, not as told or too many."""
        for word, many in NUMBERS.items():
            for count in range(many + 3):
                text = " ".join([word] + ["7"] * count)
                if count == many:
                    self.same(read_event(text), (word,) + (7,) * many)
                else:
                    self.wrong(0, min(count, many) + 1, read_event, text)
                for bad, at in itertools.product(NO_WORDS + ("-",), range(1, count + 1)):
                    if (word, bad, at) != ("most", "-", 1):
                        self.wrong(0, min(at, many + 1), read_event, " ".join([word] + ["7"] * (at - 1) + [bad] + ["7"] * (count - at)))
        for count in range(7):
            text = " ".join(["below"] + ["7"] * count)
            if count < 2:
                self.wrong(0, count + 1, read_event, text)
            else:
                self.same(read_event(text), ("below", 7, 7, (7,) * (count - 2)))
            for bad, at in itertools.product(NO_WORDS + ("-",), range(1, count + 1)):
                self.wrong(0, at, read_event, " ".join(["below"] + ["7"] * (at - 1) + [bad] + ["7"] * (count - at)))
        for text in ("most - ", "most - 5", "most - -"):
            self.wrong(0, 2, read_event, text)
        self.wrong(0, 3, read_event, "below 2 1 ")

    def test_logs(self):
        logs = [(BOTH, (("twin",),)), (SIX, ()), (CLOCK, tuple(LINES))] + [some_log(board, seed).log_now() for seed, board in enumerate(some_numberings(61) + great_numberings()[::3])]
        for log in logs:
            lines = log_lines(log)
            self.same(lines, (board_line(log[0]),) + tuple(event_line(event) for event in log[1]))
            self.same(read_log(lines), log)

    def test_wrong_logs(self):
        self.wrong(0, 0, read_log, ())
        for k in range(4):
            for text, field in (("", 0), ("twins", 0), ("wheel 6: 2@3 3@2", 0), ("drop", 1), ("drop 0 ", 2), ("below 2 1 0 01", 4), ("most x", 1)):
                self.wrong(k + 1, field, read_log, ("wheel 6: 2@3 3@2",) + ("twin",) * k + (text, "x"))
        for text, field in (("", 0), ("twin", 0), ("wheel", 1), ("wheel 6", 1), ("wheel 6: 2@6", 2), ("wheel 6: 2@3 1@2", 3), ("wheel 6: ", 2)):
            self.wrong(0, field, read_log, (text, "x"))

    def test_checked(self):
        for wrong in NO_EVENTS:
            self.refuses("event", event_line, wrong)
        for wrong in NO_TUPLES + ((), (CLOCK,), [CLOCK, ()], (CLOCK, [("twin",)]), (CLOCK, (("twin",), None)), ((12, ((2, 12),)), ()), (None, ()), ((True, ()), ()), (CLOCK, ("twin",))):
            self.refuses("log", log_lines, wrong)
            self.refuses("log", replayed, wrong)
        for wrong in NO_TEXTS:
            self.refuses("text", read_event, wrong)
        for wrong in NO_TUPLES + (["wheel 1:"], (None,), ("wheel 1:", 5), ("wheel 1:", ("twin",)), (True,)):
            self.refuses("lines", read_log, wrong)


class Replaying(Case):

    def told(self, bench):
        return [bench.told_now(), bench.depth_now(), bench.lot_now(), bench.reach_now(), bench.how_many_done(), bench.most_now(), bench.log_now()]

    def test_replayed(self):
        for seed, board in enumerate(some_numberings(29) + great_numberings()[::2]):
            bench = some_log(board, seed, 12)
            again = replayed(bench.log_now())
            self.assertIs(type(again), Bench)
            self.same(self.told(again), self.told(bench))
            while bench.how_many_done():
                self.same(again.undo(), bench.undo())

    def test_no_numbering(self):
        """Also ahead of events that cannot happen."""
        for board in (BOTH, SIX, (3, ()), (12, ((2, 6), (3, 4), (2, 2)))):
            for events in ((), (("drop", 9),)):
                with self.assertRaises(NoNumbering) as caught:
                    replayed((board, events))
                lets_fault(board, caught.exception.fault)

    def test_events_that_cannot_happen(self):
        for events, at, reason in (((("drop", 2), ("drop", 9)), 0, "hands"), ((("twin",), ("drop", 9)), 1, "dial"), ((("most", 1), ("weigh", 1, 10)), 1, "deep"),
                                   ((("most", 0), ("twin",)), 0, "deep"), ((("drop", 0), ("drop", 0), ("lift", 0), ("lift", 0)), 3, "dial")):
            with self.assertRaises(InvalidEvent) as caught:
                replayed((CLOCK, events))
            self.assertIs(caught.exception.event, events[at])
            self.same(caught.exception.reason, reason)


class Desks(Case):

    def test_examples(self):
        desk = Desk(CLOCK)
        self.same([desk.say("write 11"), desk.say("weigh 1 10"), desk.say("drop 2"), desk.say("place 1 1")], ['1 1 1', 'wheel 12: 2@6 3@10 2@1', 'no: hands', '?'])
        self.same(desk.heard(), ("write 11", "weigh 1 10", "drop 2", "place 1 1"))

    def test_by_name(self):
        desk = Desk(board=NONE)
        self.same([desk.heard(), desk.say(text="board"), desk.heard()], [(), "wheel 1:", ("board",)])

    def test_all_words(self):
        desk = Desk(CLOCK)
        asked = ("board", "lot", "reach", "depth", "done", "most", "undo", "try lift 2", "board", "lift 2", "board", "lot", "reach", "depth", "done", "most 0", "most", "try above 2 1",
                 "above 2 1", "done", "undo", "most", "undo", "board", "undo", "try most -", "most -", "most", "most 3", "most", "done", "drop 5", "try drop 5")
        told = ("wheel 12: 2@6 3@4 2@1", "lot 12: 1 2 3 6 12", "0: -; 1: -; 2: 0 1", "1", "0", "-", "no: nothing", "wheel 6: 2@3 3@2", "wheel 12: 2@6 3@4 2@1", "wheel 6: 2@3 3@2",
                "wheel 6: 2@3 3@2", "lot 6: 1 2 3 6", "0: -; 1: -", "0", "1", "wheel 6: 2@3 3@2", "0", "no: deep", "no: deep", "2", "wheel 6: 2@3 3@2", "-",
                "wheel 12: 2@6 3@4 2@1", "wheel 12: 2@6 3@4 2@1", "no: nothing", "wheel 12: 2@6 3@4 2@1", "wheel 12: 2@6 3@4 2@1", "-", "wheel 12: 2@6 3@4 2@1", "3", "2", "no: dial", "no: dial")
        self.same(tuple(desk.say(text) for text in asked), told)
        self.same(desk.heard(), asked)

    def test_without_dials(self):
        desk = Desk(NONE)
        self.same([desk.say(text) for text in ("board", "lot", "reach", "depth", "done", "write 0", "place -", "place 0", "write 1", "place ", "drop 0", "dual", "undo")],
                  ["wheel 1:", "lot 1: 1", "-", "0", "0", "-", "0", "?", "?", "?", "no: dial", "wheel 1:", "wheel 1:"])

    def test_unknown(self):
        desk = Desk(CLOCK)
        for text in ("", " ", "?", "Board", "board ", " board", "boards", "lot ", "reach 0", "depth 1", "done ", "undo 1", "undo ", "UNDO", "try", "try ", "try undo", "try board",
                     "try try twin", "try  twin", "try twin ", "try drop", "write", "write ", "write 12", "write 011", "write -1", "write +1", "write 1 ", "write  1", "write 1 1",
                     "write x", "write 1" + "0" * 99, "place", "place ", "place 0 0", "place 0 0 0 0", "place 0 3 0", "place 0 0 2", "place 00 0 0", "place 0  0 0", "place 0 0 0 ",
                     "place -", "place x 0 0", "place 0 0 -0", "twin ", "drop", "drop x", "drop 01", "most x", "most ", "most - -", "below 2", "weigh 1", "Write 11", "wrote 11", "write.11", "Place 0 0 0", "placed0 0 0", "Try twin", "trytwin", "weigh 1 10 3", "events", "?" * 4000):
            self.same(desk.say(text), "?")
        self.same([desk.say("board"), desk.say("done")], ["wheel 12: 2@6 3@4 2@1", "0"])

    def test_places(self):
        for board in (CLOCK, ODD, RESTS, (200, ((200, 7),))):
            desk = Desk(board)
            for setting in settings(board):
                line = setting_line(board, setting)
                self.same([desk.say("place " + line), desk.say(f"write {place(board, setting)}")], [str(place(board, setting)), line])
        desk = Desk(DIGITS)
        self.same([desk.say("write 123"), desk.say("place 3 2 1"), desk.say("swap 0 2"), desk.say("write 123"), desk.say("place 3 2 1")],
                  ["3 2 1", "123", "wheel 1000: 10@100 10@10 10@1", "1 2 3", "321"])

    def test_walks(self):
        """A desk beside a bench that is changed by its methods."""
        for seed, board in enumerate(some_numberings(41) + great_numberings()[::3]):
            below = mixer(seed)
            desk, bench, said = Desk(board), Bench(board), []

            def say(text):
                said.append(text)
                return desk.say(text)
            for _ in range(30):
                event = some_event(bench.told_now(), below)
                line = event_line(event)
                reason = bench.barred((event,))[0]
                wanted = "no: " + reason if reason else board_line(bench.tried(event))
                self.same(say("try " + line), wanted)
                self.same(say("board"), board_line(bench.told_now()))
                if below(3):
                    self.same(say(line), wanted)
                    if reason is None:
                        bench.go(event)
                elif below(2):
                    if bench.how_many_done():
                        self.same(say("undo"), board_line(bench.undo()))
                    else:
                        self.same(say("undo"), "no: nothing")
                now = bench.told_now()
                self.same([say("depth"), say("done"), say("most")], [str(bench.depth_now()), str(bench.how_many_done()), "-" if bench.most_now() is None else str(bench.most_now())])
                self.same([say("lot"), say("reach")], [lot_line(now[0], bench.lot_now()), order_line(len(now[1]), bench.reach_now())])
            self.same(desk.heard(), tuple(said))

    def test_rejects(self):
        for thing, word, at in ((None, "shape", -1), ([12, ()], "shape", -1), ((True, ()), "wheel", 0), ((12, []), "dials", 1), ((12, (2,)), "dial", 0),
                                ((12, ((2, 6), (1, 12))), "range", 1), ((12, ((2, 12),)), "weight", 0)):
            self.rejects(word, at, Desk, thing)
        for board in [BOTH, SIX, (3, ())] + [board for k, board in enumerate(small_boards()) if k % 197 == 0 and not is_one(board)]:
            with self.assertRaises(NoNumbering) as caught:
                Desk(board)
            lets_fault(board, caught.exception.fault)

    def test_checked(self):
        """What is no string is refused, and not heard."""
        desk = Desk(CLOCK)
        for wrong in NO_TEXTS:
            self.refuses("text", desk.say, wrong)
        self.same(desk.heard(), ())
