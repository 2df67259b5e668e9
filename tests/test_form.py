"""The form of the code: what of LANGUAGE.md can be seen at a glance."""

import ast
import builtins
import pathlib
import unittest

FOLDER = pathlib.Path(__file__).resolve().parent.parent / "evenlifts"

CALLED = set(
    "len range enumerate zip min max sum abs sorted reversed int str bool list tuple dict set isinstance ord repr any "
    "all divmod pow getattr hasattr setattr iter next map".split()
)
ERRORS = {"LookupError", "ValueError"}
METHODS = set(
    "append clear copy count endswith extend find get index insert isalnum isalpha isdigit islower isspace isupper items "
    "join keys ljust lower lstrip partition pop remove replace reverse rfind rjust rpartition rsplit rstrip setdefault "
    "split splitlines startswith strip update upper values zfill bit_length".split()
)
BARRED_WORDS = {
    "type", "typing", "enum", "Enum", "Flag", "Generic", "Protocol", "ABC", "namedtuple", "dataclass", "overload", "register",
    "mro", "elements", "open", "input", "law", "compile", "dir", "eval", "exec", "exit", "globals", "help", "id", "locals",
    "os", "quit", "super", "vars", "sys", "copyright", "credits", "license",
}
# Whoever shows values one by one, as doctest does, leaves a "_" there.
BUILTINS = set(dir(builtins)) - {"_"}
NODES_BARRED = (ast.Global, ast.AsyncFunctionDef, ast.Await, ast.Import, ast.Div, ast.MatMult)


def files():
    for path in sorted(FOLDER.glob("*.py")):
        text = path.read_text()
        yield path.name, text, ast.parse(text)


def own_attributes():
    """The names of what the package's classes store in their objects, and of their methods."""
    found = set()
    for name, text, tree in files():
        for node in ast.walk(tree):
            if isinstance(node, ast.Attribute) and isinstance(node.ctx, ast.Store):
                found.add(node.attr)
            elif isinstance(node, ast.ClassDef):
                found |= {own.name for own in node.body if isinstance(own, ast.FunctionDef)}
    return found


def functions(tree):
    return [node for node in ast.walk(tree) if isinstance(node, ast.FunctionDef)]


def called_from_tables(tree):
    """The local names to which a function from a table of its file is given."""
    tables = {own.id for node in tree.body if isinstance(node, ast.Assign) and isinstance(node.value, ast.Dict)
              for own in node.targets}
    return {
        node.targets[0].id for node in ast.walk(tree)
        if isinstance(node, ast.Assign) and isinstance(node.targets[0], ast.Name) and isinstance(node.value, ast.Subscript)
        and isinstance(node.value.value, ast.Name) and node.value.value.id in tables
    }


class Form(unittest.TestCase):

    def test_sizes(self):
        for name, text, tree in files():
            lines = text.split("\n")
            self.assertLessEqual(len(lines), 399, name)
            self.assertTrue(all(len(line) <= 120 for line in lines), name)
            for node in functions(tree):
                self.assertLessEqual(node.end_lineno - node.lineno + 1, 40, node.name)

    def test_signs(self):
        for name, text, tree in files():
            self.assertTrue(all(sign == "\n" or " " <= sign <= "~" for sign in text), name)
            for node in ast.walk(tree):
                if isinstance(node, ast.Constant):
                    self.assertNotIsInstance(node.value, (float, complex, bytes))
                    self.assertFalse(isinstance(node.value, str) and chr(37) in node.value)

    def test_nodes(self):
        for name, text, tree in files():
            for node in ast.walk(tree):
                self.assertNotIsInstance(node, NODES_BARRED, (name, getattr(node, "lineno", 0)))
                if isinstance(node, ast.Compare) and isinstance(node.ops[0], (ast.Is, ast.IsNot)):
                    self.assertIn(node.comparators[0].value, (None, True, False))
                if isinstance(node, ast.Raise) and node.exc is not None:
                    self.assertIsInstance(node.exc, ast.Call)

    def test_imports(self):
        for name, text, tree in files():
            for at, node in enumerate(tree.body):
                if isinstance(node, ast.ImportFrom):
                    self.assertTrue(node.module.startswith("evenlifts.") and node.level == 0)
                    self.assertTrue(all(own.asname is None and own.name != "*" for own in node.names))
                    self.assertTrue(all(isinstance(own, (ast.Expr, ast.ImportFrom)) for own in tree.body[:at]))
            imported = [own.name for node in ast.walk(tree) if isinstance(node, ast.ImportFrom) for own in node.names]
            self.assertEqual(len(imported), len(set(imported)))
            for own in imported:
                self.assertGreater(text.count(own), 1, (name, own))

    def test_calls(self):
        methods = METHODS | own_attributes()
        for name, text, tree in files():
            known = {own.name for node in tree.body if isinstance(node, ast.ImportFrom) for own in node.names}
            known |= {node.name for node in tree.body if isinstance(node, (ast.FunctionDef, ast.ClassDef))}
            known |= called_from_tables(tree)
            for node in ast.walk(tree):
                if isinstance(node, ast.Call):
                    if isinstance(node.func, ast.Name):
                        self.assertIn(node.func.id, known | CALLED, (name, node.lineno))
                elif isinstance(node, ast.Attribute):
                    self.assertIn(node.attr, methods, (name, node.lineno))

    def test_names(self):
        for name, text, tree in files():
            top = {own.name for node in tree.body if isinstance(node, ast.ImportFrom) for own in node.names}
            top |= {node.name for node in tree.body if isinstance(node, ast.ClassDef)}
            bound = [node.id for node in ast.walk(tree) if isinstance(node, ast.Name) and isinstance(node.ctx, ast.Store)]
            bound += [own.arg for node in functions(tree) for own in node.args.args]
            for own in bound:
                self.assertNotIn(own, top, name)
                self.assertNotIn(own, BUILTINS, name)
                self.assertFalse(own.startswith("__"), name)
            for node in functions(tree):
                self.assertFalse(node.name != "__init__" and node.name in BUILTINS, node.name)
            for node in ast.walk(tree):
                if isinstance(node, ast.Name):
                    self.assertFalse(node.id == "_" and isinstance(node.ctx, ast.Load), name)
                    self.assertNotIn(node.id, BARRED_WORDS, name)

    def test_module_level(self):
        for name, text, tree in files():
            for node in tree.body:
                self.assertIsInstance(node, (ast.Expr, ast.ImportFrom, ast.FunctionDef, ast.ClassDef, ast.Assign), name)
                if isinstance(node, ast.Assign):
                    self.assertFalse([own for own in ast.walk(node.value) if isinstance(own, ast.Call)], name)

    def test_loops_do_not_change_what_they_go_over(self):
        for name, text, tree in files():
            for loop in ast.walk(tree):
                if not isinstance(loop, ast.For):
                    continue
                gone_over = {node.id for node in ast.walk(loop.iter) if isinstance(node, ast.Name)}
                if isinstance(loop.iter, ast.Call) and getattr(loop.iter.func, "id", "") == "list":
                    continue
                for node in [own for row in loop.body for own in ast.walk(row)]:
                    if isinstance(node, ast.Call) and isinstance(node.func, ast.Attribute):
                        if node.func.attr in ("append", "pop", "extend", "update", "setdefault", "clear", "remove"):
                            target = node.func.value
                            self.assertFalse(isinstance(target, ast.Name) and target.id in gone_over, (name, loop.lineno))

    def test_each_function_has_a_docstring(self):
        for name, text, tree in files():
            self.assertTrue(ast.get_docstring(tree), name)
            for node in functions(tree):
                if node.name != "__init__":
                    self.assertTrue(ast.get_docstring(node), node.name)
