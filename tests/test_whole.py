"""The whole interface: what [2] and [12] promise of all functions and classes, asked of each of them by one table."""

import copy
import doctest
import importlib
import inspect
import pathlib
import re

from tests.common import CLOCK, ODD, RESTS, Case, shape
from tests.interface import CLASSES, FIVE, FUNCTIONS, LOG, MIRROR, NET, ORDER, PAIR, PASSES, PLAN, TWIN, TWOS, VALUES
from wheelwritten import errors
from wheelwritten.bench import Bench
from wheelwritten.boardclasses import Board
from wheelwritten.desk import Desk
from wheelwritten.errors import InvalidEvent, InvalidPaper, NotUsable, NothingToUndo
from wheelwritten.judgeclasses import Judge
from wheelwritten.lotclasses import Lot
from wheelwritten.rangeclasses import Ranges
from wheelwritten.runclasses import Runner
from wheelwritten.toneclasses import Tones

README = pathlib.Path(__file__).resolve().parent.parent / "README.md"
DOCUMENT = pathlib.Path(__file__).resolve().parent.parent.parent / "shared" / "DOC.md"
PASSED_IN = ("board", "numbering", "ranges", "wheel", "size", "many", "prime")
WRONG = [None]
PLAIN = (int, bool, str, tuple, type(None))


def functions():
    """Each function of the interface, its parameters, the kind of its result, and arguments."""
    for module, rows in FUNCTIONS.items():
        for name, parameters, kind, values in rows:
            yield getattr(importlib.import_module("wheelwritten." + module), name), parameters.split(), kind, values


def made(name):
    """A new object of the class, and the class."""
    module, _, values, _ = CLASSES[name]
    found = getattr(importlib.import_module("wheelwritten." + module), name)
    return found(*values)


def methods():
    """Each method of the interface, of an object of its own, its parameters, the kind of its result, and arguments."""
    for name, (_, _, _, rows) in CLASSES.items():
        for method, parameters, kind, values in rows:
            thing = made(name)
            if method == "back" and name == "Judge":
                thing.take(0)
            if not values and kind is None and name == "Lot":
                values = (Lot(12, (1, 4, 12)),)
            if method == "is_same":
                values = (Board(*ODD), False)
            if method == "part":
                thing, values = Board(24, ((3, 8), (4, 1))), (1, 2)
            yield getattr(thing, method), [word.split("=")[0] for word in parameters.split()], kind, values


def everything():
    yield from functions()
    yield from methods()


def came(function, *values, **named):
    """What a call returns, a generator as the list of what it gives."""
    result = function(*values, **named)
    return list(result) if inspect.isgenerator(result) else result


def told(value):
    """Objects of the package by what they tell."""
    for name in ("told", "told_now", "table"):
        if hasattr(value, name):
            return (type(value).__name__, getattr(value, name)())
    return value


def is_plain(value):
    return type(value) in PLAIN and (type(value) is not tuple or all(map(is_plain, value)))


def swaps(value):
    """The value with one 0 or 1 in it, each in turn, made False or True."""
    if type(value) is int and value in (0, 1):
        yield bool(value)
    if type(value) is tuple:
        for k, part in enumerate(value):
            for new in swaps(part):
                yield value[:k] + (new,) + value[k + 1:]


def takes_any(function, parameters, k):
    """Whether parameter k is passed in as stated, or may be any value without NotUsable."""
    name = parameters[k]
    if not inspect.ismethod(function):
        any_value = name == "thing" or (function.__name__, name) in (("after_event", "event"), ("event_reason", "event"), ("is_along", "sequence"))
        return any_value or k == 0 and name in PASSED_IN
    return name in ("thing", "event") or function.__name__ in ("has", "of_board")


class Names(Case):

    def test_functions(self):
        for module, rows in FUNCTIONS.items():
            found = importlib.import_module("wheelwritten." + module)
            for name, parameters, _, _ in rows:
                function = getattr(found, name)
                self.assertEqual((function.__module__, function.__name__), ("wheelwritten." + module, name))
                own = inspect.signature(function).parameters.values()
                self.assertEqual([parameter.name for parameter in own], parameters.split(), name)
                for parameter in own:
                    self.assertEqual((parameter.kind, parameter.default), (parameter.POSITIONAL_OR_KEYWORD, parameter.empty), name)

    def test_classes(self):
        for name, (module, parameters, _, rows) in CLASSES.items():
            found = getattr(importlib.import_module("wheelwritten." + module), name)
            self.assertEqual(found.__module__, "wheelwritten." + module)
            self.assertEqual(str(inspect.signature(found)), "(" + ", ".join(parameters.split()) + ")")
            for method, words, _, _ in rows:
                self.assertIn(method, vars(found))
                self.assertEqual(str(inspect.signature(getattr(made(name), method))), "(" + ", ".join(words.split()) + ")", (name, method))
        for method in ("of_line", "of_board"):
            self.assertIsInstance(vars({"of_line": Board, "of_board": Lot}[method])[method], classmethod)

    def test_the_document_lists_just_these(self):
        if not DOCUMENT.exists():
            self.skipTest("the document is not there")
        rows, classes, kinds = [], [], []
        for line in DOCUMENT.read_text().split("# The interface")[1].split("\n"):
            head = re.match(r"### class (\w+)\((.*?)\)\s+\(module (\w+)\)", line)
            part = re.match(r"#### (\w+)[:.] ?(.*?)\s+\[", line)
            row = re.match(r"### (.*?)\s+\(module (\w+)\)", line)
            if head:
                classes.append((head[1], head[3], head[2].replace(",", "")))
            elif part:
                kinds += [(part[1], *method) for method in re.findall(r"(\w+)\((.*?)\)", part[2].replace(",", ""))]
            elif row:
                rows += [(row[2], name, words.replace(",", "")) for name, words in re.findall(r"(\w+)\((.*?)\)", row[1])]
        self.assertEqual(len(rows), len(set(rows)))
        self.assertEqual(set(rows), {(module, row[0], row[1]) for module, part in FUNCTIONS.items() for row in part})
        self.assertEqual(classes, [(name, row[0], row[1]) for name, row in CLASSES.items()])
        self.assertEqual(kinds, [(name, part[0], part[1]) for name, row in CLASSES.items() for part in row[3]])


class Examples(Case):

    def names(self):
        """All functions and classes of the interface, by their names."""
        found = {function.__name__: function for function, _, _, _ in functions()}
        found.update({name: type(made(name)) for name in CLASSES})
        return found

    def raises_as_told(self, text, names, wanted):
        """The statement raises the error that the document writes with its fields."""
        name, words = re.match(r"raises (\w+)\((.*)\)", wanted).groups()
        fields = eval("dict(" + words + ")", {})
        self.raises(getattr(errors, name), fields, eval, text, names)

    def test_the_document(self):
        """Each example of the document, as it stands there."""
        if not DOCUMENT.exists():
            self.skipTest("the document is not there")
        names, asked = self.names(), 0
        rows = DOCUMENT.read_text().split("\n")
        for k, row in enumerate(rows):
            if not row.startswith("    >>> "):
                continue
            text, wanted = row[8:], rows[k + 1].strip()
            if wanted == "" or wanted.startswith(">>> "):
                exec(text, names)
            elif wanted.startswith("raises "):
                self.raises_as_told(text, names, wanted)
                asked += 1
            else:
                self.same(eval(text, names), eval(wanted, {}))
                asked += 1
        self.assertGreater(asked, 80)

    def test_the_readme(self):
        failed, asked = doctest.testfile(str(README), module_relative=False)
        self.assertEqual(failed, 0)
        self.assertGreater(asked, 15)


class Calls(Case):

    def test_kinds(self):
        """Each result is of exactly the stated kind, and has nothing in it but integers, strings, True, False, None and tuples."""
        for function, _, kind, values in everything():
            result = function(*values)
            if kind == "generator":
                self.assertTrue(inspect.isgenerator(result), function)
                result = list(result)
                self.assertTrue(result and all(map(is_plain, result)), function)
            elif isinstance(kind, str):
                self.assertEqual(type(result).__name__, kind, function)
            elif kind is not None:
                self.assertIs(type(result), kind, function)
                self.assertTrue(is_plain(result), function)

    def test_by_position_and_by_name(self):
        for (function, parameters, _, values), (again, _, _, _) in zip(everything(), everything()):
            if parameters[:len(values)]:
                self.same(told(came(again, **dict(zip(parameters, values)))), told(came(function, *values)))

    def test_the_same_again(self):
        """Results depend on the arguments alone, in whatever sequence calls are made."""
        first = [(told(came(function, *values)), function) for function, _, _, values in everything()]
        second = [told(came(function, *values)) for function, _, _, values in list(everything())[::-1]][::-1]
        for (result, function), again in zip(first, second):
            self.assertEqual(shape(result), shape(again), function)

    def test_arguments_stay(self):
        for function, _, _, values in everything():
            if not any(hasattr(value, "told") for value in values):
                copied = copy.deepcopy(values)
                came(function, *values)
                self.same(values, copied)

    def test_lists_as_things_stay(self):
        """Checkers, and functions that tell whether a value is of a kind, leave a list as it is."""
        for function, parameters, _, values in functions():
            if parameters and parameters[-1] == "thing":
                for thing in ([1, [2], (3, [4])], list(values[-1]) if isinstance(values[-1], tuple) else [values[-1]], (values[-1], [5])):
                    copied = copy.deepcopy(thing)
                    try:
                        self.same(function(*values[:-1], thing), False)
                    except InvalidPaper:
                        self.assertTrue(function.__name__.startswith("lets_"), function)
                    self.same(thing, copied)

    def test_new_objects(self):
        board, lot, tones = Board(*CLOCK), Lot(12, FIVE), Tones(CLOCK, PAIR)
        for thing, new in ((board, board.scaled_by(1)), (board, board.sorted_by((0, 1, 2))), (lot, lot.shared_with(lot)), (lot, lot.joint_with(lot)),
                           (tones, tones.mirrored().mirrored())):
            self.assertIsNot(thing, new)
            self.same(told(thing), told(new))
        for function, _, kind, values in functions():
            if kind == "generator":
                one, other = function(*values), function(*values)
                self.same([next(one), list(other)], [list(function(*values))[0], list(function(*values))])

    def test_any_values_are_kept(self):
        """Lists among the values of a store are not changed, and are the very objects."""
        for module, name in (("stores", "store_of"), ("stores", "values_of")):
            parts = ([1], [2, [3]], {}, None)
            result = getattr(importlib.import_module("wheelwritten." + module), name)(TWOS, parts)
            self.assertEqual(sorted(map(id, result)), sorted(map(id, parts)))
            self.assertEqual(parts, ([1], [2, [3]], {}, None))


class Checked(Case):

    def test_the_first_parameter_that_is_wrong(self):
        for function, parameters, _, values in everything():
            for k, name in enumerate(parameters[:len(values)]):
                if not takes_any(function, parameters, k):
                    with self.assertRaises(NotUsable, msg=(function, name)) as caught:
                        came(function, *values[:k], *[WRONG] * (len(values) - k))
                    self.assertEqual((caught.exception.word, caught.exception.at), (name, -1), function)

    def test_true_is_not_1(self):
        asked = 0
        for function, parameters, _, values in everything():
            for k, name in enumerate(parameters[:len(values)]):
                if k == 0 and name in PASSED_IN and not inspect.ismethod(function) or function.__module__.endswith(".stores"):
                    continue
                for new in swaps(values[k]):
                    asked += 1
                    self.check_swapped(function, name, values[:k] + (new,) + values[k + 1:])
        self.assertGreater(asked, 500)

    def check_swapped(self, function, name, values):
        """A value with True or False in place of 1 or 0 is not as stated."""
        word = function.__name__
        if word in ("has", "is_right") or name == "thing" and word.startswith("is_") or (word, name) == ("is_along", "sequence"):
            self.same(function(*values), False)
        elif name == "thing" or word == "of_board":
            self.assertRaises(InvalidPaper, function, *values)
        elif word == "event_reason":
            self.same(function(*values), "event")
        elif word == "barred":
            self.assertIn("event", function(*values))
        elif word in ("after_event", "go", "tried", "do_all"):
            with self.assertRaises(InvalidEvent) as caught:
                function(*values)
            self.same(caught.exception.reason, "event")
        else:
            with self.assertRaises(NotUsable, msg=(function, name, values)) as caught:
                came(function, *values)
            self.assertEqual((caught.exception.word, caught.exception.at), (name, -1), function)

    def test_true_is_not_1_for_new_objects(self):
        for name in ("Board", "Judge", "Written", "Bench", "Desk", "Lot"):
            values = CLASSES[name][2]
            found = type(made(name))
            for k in range(len(values)):
                for new in swaps(values[k]):
                    self.assertRaises(InvalidPaper, found, *values[:k], new, *values[k + 1:])
        self.rejects("wheel", 0, Lot, True, (1,))
        self.rejects("wheel", 0, Board, True, ())
        self.refuses("ranges", Ranges, 2, True)
        for new in swaps(PAIR):
            self.refuses("other", Tones, CLOCK, new)
        for new in swaps(CLOCK):
            self.assertRaises(InvalidPaper, Tones, new, PAIR)
        for new in swaps(TWOS):
            self.assertRaises(InvalidPaper, Runner, 5, 2, new, MIRROR)
        for new in swaps(MIRROR):
            self.refuses("other", Runner, 5, 2, TWOS, new)
        self.refuses("root", Runner, 2, True, (1, ()), (1, ()))

    def test_generators_raise_when_asked(self):
        """Not when they are called."""
        asked = 0
        for function, parameters, kind, values in everything():
            if kind != "generator":
                continue
            for k, name in enumerate(parameters):
                if not takes_any(function, parameters, k):
                    asked += 1
                    rows = function(*values[:k], WRONG, *values[k + 1:])
                    with self.assertRaises(NotUsable) as caught:
                        next(rows)
                    self.assertEqual(caught.exception.word, name)
        self.assertGreater(asked, 8)

    def test_a_refused_generator_gives_nothing_of_it(self):
        function = importlib.import_module("wheelwritten.odometers").trip
        rows = function(CLOCK, (0, 0, 0), 1, True)
        self.assertRaises(NotUsable, next, rows)
        self.assertRaises(StopIteration, next, rows)


class Objects(Case):

    def test_a_call_that_raises_changes_nothing(self):
        judge = Judge(CLOCK)
        judge.take(1)
        for wrong in (1, 2, 3, True, None, "0"):
            self.refuses("dial", judge.take, wrong)
        self.same([judge.taken(), judge.left(), judge.full_now()], [(1,), 4, (0,)])
        bench = Bench(RESTS)
        bench.go(("above", 2, 1))
        for call in (lambda: bench.go(("drop", 2)), lambda: bench.tried(5), lambda: bench.undo(2), lambda: bench.undo(None), lambda: bench.do_all((("twin",), 5)),
                     lambda: bench.do_all(5), lambda: bench.do_all((("twin",),), 1), lambda: bench.barred(5)):
            with self.assertRaises((InvalidEvent, NothingToUndo, NotUsable)):
                call()
            self.same([bench.told_now(), bench.how_many_done(), bench.log_now()], [CLOCK, 1, (RESTS, (("above", 2, 1),))])
        desk = Desk(RESTS)
        desk.say("above 2 1")
        self.refuses("text", desk.say, 5)
        self.same([desk.heard(), desk.say("done")], [("above 2 1",), "1"])

    def test_objects_that_never_change(self):
        """Each method is asked, rightly and wrongly; what the object tells stays the same."""
        for name in ("Board", "Written", "Lot", "Ranges", "Tones", "Runner"):
            thing = made(name)
            ahead = told(thing)
            for method, _, kind, values in CLASSES[name][3]:
                if kind is not None:
                    came(getattr(thing, method), *values)
                if values:
                    try:
                        came(getattr(thing, method), *[WRONG] * len(values))
                    except (NotUsable, InvalidPaper):
                        self.same(told(thing), ahead)
                self.same(told(thing), ahead)

    def test_what_was_returned_may_be_passed_in_again(self):
        bench = Bench(RESTS)
        bench.do_all((("above", 2, 1), ("most", 1), ("dual",)))
        board, events = bench.log_now()
        again = Bench(board)
        self.same([again.do_all(events), again.log_now()], [bench.told_now(), bench.log_now()])
        self.same(Lot(12, Lot.of_board(CLOCK).told()[1]).as_board(), importlib.import_module("wheelwritten.straights").twin_of(CLOCK))

    def test_the_table_speaks_of_right_things(self):
        self.same([Tones(CLOCK, PAIR).is_right(PLAN), Runner(5, 2, TWOS, MIRROR).by_plan(VALUES, PASSES), Bench(CLOCK).tried(TWIN)], [True, (3, 0, 4, 2), ODD])
        self.same([len(NET), len(ORDER), len(LOG)], [2, 3, 2])
