"""The form of the code: what of LANGUAGE.md can be seen at a glance."""

import ast
import builtins
import pathlib
import unittest

FOLDER = pathlib.Path(__file__).resolve().parent.parent / "evenlifts"

CALLED = set(
    "len range enumerate zip min max sum abs sorted reversed int str bool list tuple dict set isinstance ord repr any "
    "all divmod pow getattr hasattr setattr iter next map".split()
)
ERRORS = {"LookupError", "ValueError"}
METHODS = set(
    "append clear copy count endswith extend find get index insert isalnum isalpha isdigit islower isspace isupper items "
    "join keys ljust lower lstrip partition pop remove replace reverse rfind rjust rpartition rsplit rstrip setdefault "
    "split splitlines startswith strip update upper values zfill bit_length".split()
)
BARRED_WORDS = {
    "type", "typing", "enum", "Enum", "Flag", "Generic", "Protocol", "ABC", "namedtuple", "dataclass", "overload", "register",
    "mro", "elements", "open", "input", "law", "compile", "dir", "eval", "exec", "exit", "globals", "help", "id", "locals",
    "os", "quit", "super", "vars", "sys", "copyright", "credits", "license",
}
# Whoever shows values one by one, as doctest does, leaves a "_" there.
BUILTINS = set(dir(builtins)) - {"_"}
# What is walked on the spot (L23), and the builtins that walk their first argument, or their only one, at once.
WALKS = {"range", "zip", "enumerate", "reversed"}
VIEWS = {".items", ".keys", ".values"}
WALKERS = {"list", "tuple", "dict", "sorted", "sum", "any", "all", "enumerate", "zip"}
WALKERS_OF_ONE = {"min", "max"}
NODES_BARRED = (ast.Global, ast.AsyncFunctionDef, ast.Await, ast.Import, ast.Div, ast.MatMult)


def files():
    for path in sorted(FOLDER.glob("*.py")):
        text = path.read_text()
        yield path.name, text, ast.parse(text)


def own_attributes():
    """The names of what the package's classes store in their objects, and of their methods."""
    found = set()
    for name, text, tree in files():
        for node in ast.walk(tree):
            if isinstance(node, ast.Attribute) and isinstance(node.ctx, ast.Store):
                found.add(node.attr)
            elif isinstance(node, ast.ClassDef):
                found |= {own.name for own in node.body if isinstance(own, ast.FunctionDef)}
    return found


def functions(tree):
    return [node for node in ast.walk(tree) if isinstance(node, ast.FunctionDef)]


def called_from_tables(tree):
    """The local names to which a function from a table of its file is given."""
    tables = {own.id for node in tree.body if isinstance(node, ast.Assign) and isinstance(node.value, ast.Dict)
              for own in node.targets}
    return {
        node.targets[0].id for node in ast.walk(tree)
        if isinstance(node, ast.Assign) and isinstance(node.targets[0], ast.Name) and isinstance(node.value, ast.Subscript)
        and isinstance(node.value.value, ast.Name) and node.value.value.id in tables
    }


def called_name(node):
    """The name of the function that node calls, or of the method, ahead of it a dot; "" if node is no such call."""
    if not isinstance(node, ast.Call):
        return ""
    if isinstance(node.func, ast.Attribute):
        return "." + node.func.attr
    return getattr(node.func, "id", "")


def is_walk(node):
    """Whether node is a call that gives a range, a zip, an enumerate, a reversed or a view of a dict."""
    return called_name(node) in WALKS | VIEWS


def walked_by_call(node):
    """The list of that argument of the call node that it may walk on the spot, if there is one."""
    name, first = called_name(node), node.args[:1]
    inner = called_name(first[0]) if first else ""
    may = (
        name in WALKERS
        or name in WALKERS_OF_ONE and len(node.args) == 1
        or name == "reversed" and inner == "range"
        or name == "len" and inner in VIEWS | {"range"}
        or name == ".join" and isinstance(node.func.value, ast.Constant)
    )
    return first if may else []


def walked_in_test(node):
    """Those sides of the comparison node that may be asked whether they have something."""
    asked = [own for sign, own in zip(node.ops, node.comparators) if isinstance(sign, (ast.In, ast.NotIn))]
    return [own for own in asked if called_name(own) in ("range", ".keys")]


def walks_not_on_the_spot(tree):
    """The rows of the calls of is_walk that are kept, handed on or returned instead of walked.

    L23 lets a plain local variable keep some of them; the package does without.
    """
    walked = []
    for node in ast.walk(tree):
        if isinstance(node, (ast.For, ast.comprehension)):
            walked.append(node.iter)
        elif isinstance(node, ast.Call):
            walked += walked_by_call(node)
        elif isinstance(node, ast.Compare):
            walked += walked_in_test(node)
    return sorted(node.lineno for node in ast.walk(tree) if is_walk(node) and not any(node is own for own in walked))


class Form(unittest.TestCase):

    def test_sizes(self):
        for name, text, tree in files():
            lines = text.split("\n")
            self.assertLessEqual(len(lines), 399, name)
            self.assertTrue(all(len(line) <= 120 for line in lines), name)
            for node in functions(tree):
                self.assertLessEqual(node.end_lineno - node.lineno + 1, 40, node.name)

    def test_signs(self):
        for name, text, tree in files():
            self.assertTrue(all(sign == "\n" or " " <= sign <= "~" for sign in text), name)
            for node in ast.walk(tree):
                if isinstance(node, ast.Constant):
                    self.assertNotIsInstance(node.value, (float, complex, bytes))
                    self.assertFalse(isinstance(node.value, str) and chr(37) in node.value)

    def test_nodes(self):
        for name, text, tree in files():
            for node in ast.walk(tree):
                self.assertNotIsInstance(node, NODES_BARRED, (name, getattr(node, "lineno", 0)))
                if isinstance(node, ast.Compare) and isinstance(node.ops[0], (ast.Is, ast.IsNot)):
                    self.assertIn(node.comparators[0].value, (None, True, False))
                if isinstance(node, ast.Raise) and node.exc is not None:
                    self.assertIsInstance(node.exc, ast.Call)

    def test_imports(self):
        for name, text, tree in files():
            for at, node in enumerate(tree.body):
                if isinstance(node, ast.ImportFrom):
                    self.assertTrue(node.module.startswith("evenlifts.") and node.level == 0)
                    self.assertTrue(all(own.asname is None and own.name != "*" for own in node.names))
                    self.assertTrue(all(isinstance(own, (ast.Expr, ast.ImportFrom)) for own in tree.body[:at]))
            imported = [own.name for node in ast.walk(tree) if isinstance(node, ast.ImportFrom) for own in node.names]
            self.assertEqual(len(imported), len(set(imported)))
            for own in imported:
                self.assertGreater(text.count(own), 1, (name, own))

    def test_calls(self):
        methods = METHODS | own_attributes()
        for name, text, tree in files():
            known = {own.name for node in tree.body if isinstance(node, ast.ImportFrom) for own in node.names}
            known |= {node.name for node in tree.body if isinstance(node, (ast.FunctionDef, ast.ClassDef))}
            known |= called_from_tables(tree)
            for node in ast.walk(tree):
                if isinstance(node, ast.Call):
                    if isinstance(node.func, ast.Name):
                        self.assertIn(node.func.id, known | CALLED, (name, node.lineno))
                elif isinstance(node, ast.Attribute):
                    self.assertIn(node.attr, methods, (name, node.lineno))

    def test_names(self):
        for name, text, tree in files():
            top = {own.name for node in tree.body if isinstance(node, ast.ImportFrom) for own in node.names}
            top |= {node.name for node in tree.body if isinstance(node, ast.ClassDef)}
            bound = [node.id for node in ast.walk(tree) if isinstance(node, ast.Name) and isinstance(node.ctx, ast.Store)]
            bound += [own.arg for node in functions(tree) for own in node.args.args]
            for own in bound:
                self.assertNotIn(own, top, name)
                self.assertNotIn(own, BUILTINS, name)
                self.assertFalse(own.startswith("__"), name)
            for node in functions(tree):
                self.assertFalse(node.name != "__init__" and node.name in BUILTINS, node.name)
            for node in ast.walk(tree):
                if isinstance(node, ast.Name):
                    self.assertFalse(node.id == "_" and isinstance(node.ctx, ast.Load), name)
                    self.assertNotIn(node.id, BARRED_WORDS, name)

    def test_module_level(self):
        for name, text, tree in files():
            for node in tree.body:
                self.assertIsInstance(node, (ast.Expr, ast.ImportFrom, ast.FunctionDef, ast.ClassDef, ast.Assign), name)
                if isinstance(node, ast.Assign):
                    self.assertFalse([own for own in ast.walk(node.value) if isinstance(own, ast.Call)], name)

    def test_loops_do_not_change_what_they_go_over(self):
        for name, text, tree in files():
            for loop in ast.walk(tree):
                if not isinstance(loop, ast.For):
                    continue
                gone_over = {node.id for node in ast.walk(loop.iter) if isinstance(node, ast.Name)}
                if isinstance(loop.iter, ast.Call) and getattr(loop.iter.func, "id", "") == "list":
                    continue
                for node in [own for row in loop.body for own in ast.walk(row)]:
                    if isinstance(node, ast.Call) and isinstance(node.func, ast.Attribute):
                        if node.func.attr in ("append", "pop", "extend", "update", "setdefault", "clear", "remove"):
                            target = node.func.value
                            self.assertFalse(isinstance(target, ast.Name) and target.id in gone_over, (name, loop.lineno))

    def test_walks_are_on_the_spot(self):
        for name, text, tree in files():
            self.assertEqual(walks_not_on_the_spot(tree), [], name)

    def test_walks_that_are_not_on_the_spot_are_seen(self):
        for row in (
            "held = pile_of(frame, range(n))", "held = pile_of(frame, lot=range(n))", "held = pile_of(*range(n))",
            "held = pile_of(frame, zip(one, other))", "held = pile_of(frame, enumerate(one))", "held = own.told(range(n))",
            "held = pile_of(frame, reversed(one))", "held = pile_of(frame, table.items())", "held = (n, range(n))",
            "held = range(n)", "held, far = zip(one, other)", "held = reversed(list(one))", "held.append(range(n))",
            "held = reversed(zip(one, other))", "held = len(zip(one, other))", "held = one == range(n)", "held = map(one, range(n))",
            "held = max(range(n), one)", "held = zip(one, range(n))", "held = set(range(n))",
            "held = one in zip(one, other)", "held = one in table.values()", "held = word.join(table.keys())",
            "held = [range(n) for n in one]", "held = reversed(range(n)) if n else one",
        ):
            self.assertEqual(walks_not_on_the_spot(ast.parse("n = 0\n" + row))[:1], [2], row)
        told = ast.parse("def told(n):\n    return range(n)")
        self.assertEqual(walks_not_on_the_spot(told), [2])

    def test_walks_on_the_spot_may_stand(self):
        for row in (
            "held = pile_of(frame, list(range(n)))", "held = pile_of(frame, tuple(zip(one, other)))", "held = sum(range(n))",
            "held = [jack for jack in range(n)]", "held = list(enumerate(zip(one, other)))", "held = max(table.values())",
            "held = list(reversed(range(n)))", "held = jack in range(n)", "held = jack not in table.keys()",
            "held = len(range(n)) + len(table.items())", "held = max(range(n), default=0)", "held = ' '.join(table.keys())",
            "held = dict(zip(one, other))", "held = {jack: 1 for jack, own in table.items()}", "held = list(range(n))[::-1]",
        ):
            self.assertEqual(walks_not_on_the_spot(ast.parse(row)), [], row)
        self.assertEqual(walks_not_on_the_spot(ast.parse("for jack, own in enumerate(one):\n    told(jack)")), [])

    def test_each_function_has_a_docstring(self):
        for name, text, tree in files():
            self.assertTrue(ast.get_docstring(tree), name)
            for node in functions(tree):
                if node.name != "__init__":
                    self.assertTrue(ast.get_docstring(node), node.name)
