"""The form of the package: those rules of the subset of Python that a look at each file can tell."""

import ast
import builtins
import pathlib
import re
import unittest

PACKAGE = pathlib.Path(__file__).resolve().parent.parent / "wheelwritten"
FILES = sorted(path for path in PACKAGE.rglob("*") if "__pycache__" not in path.parts and path.is_file())
TREES = {path: ast.parse(path.read_text()) for path in FILES if path.suffix == ".py"}
LIBRARY = {
    "math": {"gcd", "lcm", "isqrt", "comb", "perm", "factorial"},
    "heapq": {"heappush", "heappop", "heapify", "heapreplace", "heappushpop"},
    "itertools": {"product", "combinations", "permutations", "chain", "accumulate", "pairwise", "islice", "zip_longest"},
    "collections": {"defaultdict"},
}
BUILTINS = set("""len range enumerate zip min max sum abs sorted reversed int str bool bytes list tuple dict set frozenset
    isinstance ord repr any all divmod pow getattr hasattr setattr iter next map super property staticmethod classmethod
    Exception ValueError TypeError KeyError IndexError LookupError ZeroDivisionError ArithmeticError OverflowError
    RuntimeError NotImplementedError AttributeError StopIteration NotImplemented print object float""".split())
BARRED = set("""register mro elements open input law version_info with_traceback add_note attrgetter breakpoint builtins
    compile copyright credits delattr dir eval exec exit gc globals help id importlib license locals methodcaller os quit
    vars""".split())
METHODS = set("""append clear copy count endswith extend find get index insert isalnum isalpha isdigit islower isspace
    isupper items join keys ljust lower lstrip partition pop remove replace reverse rfind rjust rpartition rsplit rstrip
    setdefault split splitlines startswith strip update upper values zfill bit_length add discard sort format encode decode
    title capitalize swapcase casefold center expandtabs removeprefix removesuffix rindex isascii isdecimal isnumeric istitle
    isidentifier isprintable translate""".split())
LEVEL = (ast.Import, ast.ImportFrom, ast.FunctionDef, ast.ClassDef, ast.Assign, ast.AnnAssign)
AT_ONCE = ("list", "tuple", "dict", "sorted", "sum", "min", "max", "any", "all", "enumerate", "zip")
PARENTS = {child: node for tree in TREES.values() for node in ast.walk(tree) for child in ast.iter_child_nodes(node)}


def nodes(kind):
    """All nodes of a kind, each with the file that it stands in."""
    return [(path, node) for path, tree in TREES.items() for node in ast.walk(tree) if isinstance(node, kind)]


def bound_names(tree):
    """All names that functions, classes, parameters and assignments bind in a file."""
    names = []
    for node in ast.walk(tree):
        if isinstance(node, (ast.FunctionDef, ast.ClassDef)):
            names.append(node.name)
        elif isinstance(node, ast.arg):
            names.append(node.arg)
        elif isinstance(node, ast.Name) and not isinstance(node.ctx, ast.Load):
            names.append(node.id)
    return names


class Form(unittest.TestCase):

    def test_files(self):
        self.assertIn(PACKAGE / "__init__.py", FILES)
        self.assertLessEqual(len(FILES), 100)
        for path in FILES:
            self.assertRegex(path.name, r"\A[a-z0-9_]+\.py\Z")
            self.assertNotIn(path.stem, dir(builtins))
            self.assertFalse(re.match(r"law_|test|conftest|site", path.stem), path)

    def test_characters_and_sizes(self):
        for path in FILES:
            text = path.read_text()
            self.assertRegex(text, r"\A[ -~\n]*\Z", path)
            rows = text.split("\n")
            self.assertLessEqual(len(rows), 400, path)
            self.assertLessEqual(max(map(len, rows)), 120, path)
        for path, node in nodes(ast.FunctionDef):
            self.assertLessEqual(node.end_lineno - node.lineno + 1, 40, (path, node.name))

    def test_imports(self):
        for path, node in nodes((ast.Import, ast.ImportFrom)):
            self.assertIsInstance(node, ast.ImportFrom, path)
            self.assertEqual(node.level, 0, path)
            self.assertIn(node, TREES[path].body)
            for alias in node.names:
                if node.module in LIBRARY:
                    self.assertIn(alias.name, LIBRARY[node.module])
                    self.assertIsNone(alias.asname)
                    continue
                self.assertTrue(node.module.startswith("wheelwritten."), path)
                source = PACKAGE / (node.module.split(".", 1)[1].replace(".", "/") + ".py")
                defined = [part.name for part in TREES[source].body if isinstance(part, (ast.FunctionDef, ast.ClassDef))]
                assigned = [target.id for part in TREES[source].body if isinstance(part, ast.Assign) for target in part.targets]
                self.assertIn(alias.name, defined + assigned, path)

    def test_no_ring_of_imports(self):
        needs = {path.stem: [] for path in TREES}
        for path, node in nodes(ast.ImportFrom):
            if node.module.startswith("wheelwritten."):
                needs[path.stem].append(node.module.split(".")[1])
        done = set()
        while len(done) < len(needs):
            ready = [name for name in needs if name not in done and done.issuperset(needs[name])]
            self.assertTrue(ready, set(needs) - done)
            done.update(ready)

    def test_module_level(self):
        for path, tree in TREES.items():
            for k, node in enumerate(tree.body):
                if isinstance(node, ast.Expr):
                    self.assertEqual(k, 0, path)
                    self.assertIsInstance(node.value, ast.Constant, path)
                else:
                    self.assertIsInstance(node, LEVEL, path)
            bound = [node.name for node in tree.body if isinstance(node, (ast.FunctionDef, ast.ClassDef))]
            bound += [alias.asname or alias.name for node in tree.body if isinstance(node, ast.ImportFrom) for alias in node.names]
            bound += [target.id for node in tree.body if isinstance(node, ast.Assign) for target in node.targets]
            self.assertEqual(len(bound), len(set(bound)), path)

    def test_names(self):
        for path, tree in TREES.items():
            imported = {alias.name for node in tree.body if isinstance(node, ast.ImportFrom) for alias in node.names}
            classes = {node.name for node in ast.walk(tree) if isinstance(node, ast.ClassDef)}
            methods = {part.name for node in ast.walk(tree) if isinstance(node, ast.ClassDef) for part in node.body
                       if isinstance(part, ast.FunctionDef)}
            for name in bound_names(tree):
                if name in classes:
                    continue
                self.assertTrue(name not in dir(builtins) or name in methods, (path, name))
                self.assertNotIn(name, BARRED, path)
                self.assertTrue(name not in imported or name in methods, (path, name))
                self.assertTrue(name in methods or re.match(r"_?[A-Za-z][A-Za-z0-9_]*\Z|_\Z", name), (path, name))
                self.assertFalse(re.match(r"_(wall|pe_|dcw_|enum_|cm_|twin_re_|lay_|law_|stub_|sre)", name), (path, name))

    def test_builtins(self):
        for path, node in nodes(ast.Name):
            if hasattr(builtins, node.id):
                self.assertIn(node.id, BUILTINS, (path, node.lineno))
                self.assertNotIn(node.id, ("chr", "print"), (path, node.lineno))

    def test_methods_of_builtin_values(self):
        own = {part.name for _, node in nodes(ast.ClassDef) for part in node.body if isinstance(part, ast.FunctionDef)}
        for path, node in nodes(ast.Call):
            if isinstance(node.func, ast.Attribute):
                self.assertIn(node.func.attr, METHODS | own, (path, node.lineno))

    def test_no_barred_syntax(self):
        barred = (ast.Global, ast.AsyncFunctionDef, ast.Await, ast.AsyncFor, ast.AsyncWith, ast.Div)
        self.assertEqual(nodes(barred), [])
        for path, node in nodes(ast.Constant):
            self.assertNotIsInstance(node.value, (float, complex), (path, node.lineno))
            if isinstance(node.value, str):
                self.assertNotIn("%", node.value, (path, node.lineno))
                self.assertFalse(re.search(r"\btype\b|\btyping\b|\benum\b", node.value) and len(node.value) < 20, path)
        for path, node in nodes(ast.BinOp):
            if isinstance(node.op, ast.Pow):
                self.assertIsInstance(node.right, ast.Constant, (path, node.lineno))
        for path, node in nodes(ast.FunctionDef):
            for decorator in node.decorator_list:
                self.assertIn(decorator.id, ("classmethod", "staticmethod", "property"), path)
        for path, node in nodes(ast.ClassDef):
            self.assertEqual(node.decorator_list, [], path)

    def test_errors(self):
        """Errors are raised on the spot, by name, and only own errors and three of Python's are caught."""
        own = {node.name for _, node in nodes(ast.ClassDef)}
        for path, node in nodes(ast.Raise):
            self.assertTrue(node.exc is None or isinstance(node.exc, ast.Call) and node.exc.func.id in own | {"TypeError"}, path)
        for path, node in nodes(ast.ExceptHandler):
            self.assertIsInstance(node.type, (ast.Name, ast.Tuple), path)
            caught = node.type.elts if isinstance(node.type, ast.Tuple) else [node.type]
            for name in caught:
                self.assertIn(name.id, own | {"KeyError", "ZeroDivisionError", "StopIteration"}, path)

    def test_calls_of_ranges_are_iterated_at_once(self):
        """A zip, range, enumerate or reversed stands in a loop or as an argument, not in a return or a container."""
        for path, node in nodes((ast.Return, ast.Tuple, ast.List, ast.Dict)):
            values = [node.value] if isinstance(node, ast.Return) else list(ast.iter_child_nodes(node))
            for value in values:
                if isinstance(value, ast.Call) and isinstance(value.func, ast.Name):
                    self.assertNotIn(value.func.id, ("zip", "range", "enumerate", "reversed", "map", "iter"), (path, node.lineno))

    def calls(self, names):
        """All calls of functions or methods with these names."""
        for path, node in nodes(ast.Call):
            name = node.func.id if isinstance(node.func, ast.Name) else getattr(node.func, "attr", None)
            if name in names:
                yield path, node

    def iterated_at_once(self, node):
        parent = PARENTS[node]
        if isinstance(parent, (ast.For, ast.comprehension)):
            return parent.iter is node
        return isinstance(parent, ast.YieldFrom) or isinstance(parent, ast.Call) and getattr(parent.func, "id", None) in AT_ONCE

    def test_generators_are_iterated_at_once(self):
        names = {}
        for path, node in nodes(ast.FunctionDef):
            own = [part for part in ast.walk(node) if isinstance(part, (ast.Yield, ast.YieldFrom))]
            names.setdefault(node.name, []).append(bool(own))
        generators = {name for name, kinds in names.items() if any(kinds)}
        for name in generators:
            self.assertTrue(all(names[name]) and name not in METHODS, name)
        for path, node in self.calls(generators | {"product", "combinations", "permutations", "map", "chain", "pairwise"}):
            self.assertTrue(self.iterated_at_once(node), (path, node.lineno))
        for path, node in self.calls(generators):
            for value in node.args:
                self.assertIsInstance(value, (ast.Name, ast.Attribute, ast.Constant, ast.Tuple), (path, node.lineno))
        for path, node in nodes(ast.Name):
            if node.id in generators and isinstance(node.ctx, ast.Load):
                self.assertTrue(isinstance(PARENTS[node], ast.Call) and PARENTS[node].func is node, (path, node.lineno))

    def is_use_of_a_set(self, node):
        """Whether a set, or the name of a stored one, stands where a set may stand."""
        parent = PARENTS[node]
        if isinstance(parent, ast.Compare):
            return node in parent.comparators or isinstance(parent.ops[0], (ast.Eq, ast.NotEq))
        if isinstance(parent, ast.Call):
            return getattr(parent.func, "id", None) in ("sorted", "len") and parent.args == [node]
        return isinstance(parent, (ast.If, ast.While)) and parent.test is node

    def test_sets_stand_where_they_may(self):
        found = [(path, node) for path, node in nodes((ast.Set, ast.SetComp))]
        found += [(path, node) for path, node in nodes(ast.Call) if getattr(node.func, "id", None) in ("set", "frozenset")]
        for path, node in found:
            parent = PARENTS[node]
            if not isinstance(parent, ast.Assign):
                self.assertTrue(self.is_use_of_a_set(node), (path, node.lineno))
                continue
            name = parent.targets[0].id
            function = parent
            while not isinstance(function, ast.FunctionDef):
                function = PARENTS[function]
            uses = [part for part in ast.walk(function) if isinstance(part, ast.Name) and part.id == name]
            self.assertEqual([part for part in uses if isinstance(part.ctx, ast.Store)], parent.targets, (path, node.lineno))
            for part in uses:
                if part is not parent.targets[0]:
                    user = PARENTS[part]
                    called = isinstance(user, ast.Attribute) and user.attr in ("add", "discard") and isinstance(PARENTS[PARENTS[user]], ast.Expr)
                    self.assertTrue(called or self.is_use_of_a_set(part), (path, part.lineno))

    def test_names_of_the_library_are_only_called(self):
        for path, tree in TREES.items():
            names = {alias.name for node in tree.body if isinstance(node, ast.ImportFrom) and node.module in LIBRARY for alias in node.names}
            for node in ast.walk(tree):
                if isinstance(node, ast.Name) and node.id in names:
                    self.assertTrue(isinstance(PARENTS[node], ast.Call) and PARENTS[node].func is node, (path, node.lineno))
                    self.assertEqual(PARENTS[node].keywords, [], (path, node.lineno))

    def test_classes(self):
        """Own names begin plainly, no name is a method and an attribute of one class, and no class has __eq__ or __len__."""
        for path, node in nodes(ast.ClassDef):
            methods = [part.name for part in node.body if isinstance(part, ast.FunctionDef)]
            self.assertEqual(len(methods), len(set(methods)), (path, node.name))
            stored = {part.attr for part in ast.walk(node) if isinstance(part, ast.Attribute) and isinstance(part.ctx, ast.Store)}
            self.assertFalse(stored & set(methods), (path, node.name))
            self.assertFalse(stored & METHODS, (path, node.name))
            self.assertFalse({name for name in methods if name.startswith("__")} - {"__init__"}, (path, node.name))
