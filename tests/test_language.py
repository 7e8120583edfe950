"""Checks rules of the Python subset that the package is written in."""

import ast
import builtins
import pathlib
import re
import textwrap
import unittest
import warnings

PACKAGE = pathlib.Path(__file__).resolve().parent.parent / "besideandthrough"
PREFIX = "besideandthrough."
LIBRARY = {
    "math": {"gcd", "lcm", "isqrt", "comb", "perm", "factorial"},
    "itertools": {"product", "combinations", "permutations"},
}
# The calls that iterate at once over products and combinations.
ITERATING = {"list", "tuple", "sorted", "sum", "min", "max", "any", "all"}
BUILTINS = set(
    "len range enumerate zip min max sum abs sorted reversed int str bool bytes list tuple dict set"
    " frozenset isinstance ord repr any all divmod iter next map Exception ValueError TypeError"
    " KeyError IndexError LookupError ZeroDivisionError ArithmeticError OverflowError RuntimeError"
    " NotImplementedError StopIteration super property staticmethod classmethod".split())
METHODS = set(
    "append clear copy count endswith extend find get index insert isalnum isalpha isdigit islower"
    " isspace isupper items join keys ljust lower lstrip partition pop remove replace reverse rfind"
    " rjust rpartition rsplit rstrip setdefault split splitlines startswith strip update upper"
    " values zfill bit_length title capitalize swapcase casefold center expandtabs removeprefix"
    " removesuffix rindex isascii isdecimal isnumeric istitle isidentifier isprintable add discard"
    " sort".split())
KINDS = (str, bytes, int, list, dict, set, tuple)
BUILTIN_METHODS = {name for kind in KINDS for name in dir(kind) if not name.startswith("_")}
ATTRIBUTES = {"count", "index", "title", "find", "get", "join", "lower", "upper", "split", "strip",
              "copy", "add"}
BARRED = {"register", "mro", "elements", "open", "input", "law", "version_info", "with_traceback",
          "add_note"}
WORDS = ("type", "typing", "enum", "Enum", "Flag", "Generic", "Protocol", "ABC", "namedtuple",
         "NamedTuple", "abstractmethod")
STATEMENTS = (
    ast.Assign, ast.AugAssign, ast.If, ast.While, ast.For, ast.Return, ast.Break, ast.Continue,
    ast.Pass, ast.Raise, ast.Assert, ast.Delete, ast.Nonlocal, ast.Match, ast.With, ast.Try,
    ast.Expr, ast.FunctionDef, ast.ClassDef, ast.ImportFrom)
DOUBLES = re.compile(r"__(init|eq|repr|str|len|enter|exit|call|iter)__")


def sources():
    return {path.name: path.read_text(encoding="utf-8") for path in sorted(PACKAGE.glob("*.py"))}


def trees():
    return {name: ast.parse(text) for name, text in sources().items()}


def bound_names(tree):
    """All names that a file binds, with the line of each."""
    for node in ast.walk(tree):
        if isinstance(node, ast.Name) and isinstance(node.ctx, ast.Store):
            yield node.id, node.lineno
        elif isinstance(node, ast.arg):
            yield node.arg, node.lineno
        elif isinstance(node, ast.ExceptHandler) and node.name:
            yield node.name, node.lineno
        elif isinstance(node, ast.FunctionDef):
            yield node.name, node.lineno


def imports_of(tree):
    return [node for node in tree.body if isinstance(node, ast.ImportFrom)]


def methods_in(files):
    """All methods of the classes of files."""
    return [node for tree in files.values() for found in ast.walk(tree)
            if isinstance(found, ast.ClassDef) for node in found.body
            if isinstance(node, ast.FunctionDef)]


def shared_names(files):
    """The names that are those of a method and of an attribute (rule L18)."""
    stored = {node.attr for tree in files.values() for node in ast.walk(tree)
              if isinstance(node, ast.Attribute) and isinstance(node.ctx, ast.Store)}
    return {node.name for node in methods_in(files)} & stored


def names_called(function):
    """The names of the functions and methods that the rows of a function call."""
    found = set()
    for node in ast.walk(function):
        if isinstance(node, ast.Call):
            called = node.func
            found.add(called.attr if isinstance(called, ast.Attribute) else ast.unparse(called))
    return found


def is_run_unseen(method):
    """Whether a method is run without a call that names it: by a sign or as a property."""
    return method.name != "__init__" and method.name.startswith("__") or any(
        ast.unparse(part) == "property" for part in method.decorator_list)


def unseen_calls(files):
    """The methods that are run unseen and call a shared name, with these names.

    What the methods call in turn counts too, but for `__call__`, which may call anything.
    """
    shared = shared_names(files)
    functions = {}
    for tree in files.values():
        for node in ast.walk(tree):
            if isinstance(node, ast.FunctionDef):
                functions.setdefault(node.name, []).append(node)
    wrong = []
    for method in methods_in(files):
        if is_run_unseen(method):
            called = names_called(method)
            waiting = sorted(called) if method.name != "__call__" else []
            while waiting:
                for node in functions.get(waiting.pop(), ()):
                    waiting += sorted(names_called(node) - called)
                    called |= names_called(node)
            if called & shared:
                wrong.append((method.name, sorted(called & shared)))
    return wrong


class Language(unittest.TestCase):
    def each(self, wanted=ast.AST):
        for name, tree in trees().items():
            for node in ast.walk(tree):
                if isinstance(node, wanted):
                    yield f"{name}:{getattr(node, 'lineno', 0)}", node

    def test_files(self):
        for path in PACKAGE.iterdir():
            if path.name != "__pycache__":
                self.assertRegex(path.name, r"^[a-z_][a-z0-9_]*\.py$")

    def test_sizes_and_characters(self):
        for name, text in sources().items():
            lines = text.split("\n")
            self.assertLessEqual(len(lines), 399, name)
            self.assertRegex(text, r"\A[ -~\n]*\Z", name)
            self.assertLessEqual(max(map(len, lines)), 120, name)
        for where, node in self.each(ast.FunctionDef):
            self.assertLessEqual(node.end_lineno - node.lineno + 1, 40, where)

    def test_no_warnings(self):
        with warnings.catch_warnings():
            warnings.simplefilter("error")
            for name, text in sources().items():
                compile(text, name, "exec")

    def test_imports(self):
        files = trees()
        for name, tree in files.items():
            for node in imports_of(tree):
                self.assertEqual(node.level, 0, name)
                self.assertTrue(all(alias.asname is None for alias in node.names), name)
                names = {alias.name for alias in node.names}
                if node.module in LIBRARY:
                    self.assertLessEqual(names, LIBRARY[node.module], name)
                else:
                    self.assertTrue(node.module.startswith(PREFIX), name)
                    defined = self.defined_in(files[node.module[len(PREFIX):] + ".py"])
                    self.assertLessEqual(names, defined, name)
                for other in names:
                    uses = [use for use in ast.walk(tree)
                            if isinstance(use, ast.Name) and use.id == other]
                    self.assertTrue(uses, f"{name} does not use {other}")

    def defined_in(self, tree):
        names = set()
        for node in tree.body:
            if isinstance(node, (ast.FunctionDef, ast.ClassDef)):
                names.add(node.name)
            elif isinstance(node, ast.Assign):
                names.add(node.targets[0].id)
        return names

    def test_no_two_files_import_from_each_other(self):
        needs = {name[:-3]: {node.module[len(PREFIX):] for node in imports_of(tree)
                             if node.module.startswith(PREFIX)}
                 for name, tree in trees().items()}
        while needs:
            free = [name for name, others in needs.items() if not others & set(needs)]
            self.assertTrue(free, needs)
            for name in free:
                del needs[name]

    def test_module_level(self):
        for name, tree in trees().items():
            for at, node in enumerate(tree.body):
                if isinstance(node, ast.Expr):
                    self.assertTrue(at == 0 and isinstance(node.value, ast.Constant), name)
                elif isinstance(node, ast.Assign):
                    self.assertEqual(len(node.targets), 1)
                    self.assertIsInstance(node.targets[0], ast.Name)
                    kinds = {type(part) for part in ast.walk(node.value)}
                    self.assertLessEqual(kinds, {
                        ast.Constant, ast.Tuple, ast.List, ast.Dict, ast.Name, ast.Load})
                else:
                    self.assertIsInstance(node, (ast.ImportFrom, ast.FunctionDef, ast.ClassDef))

    def test_statements(self):
        for where, node in self.each(ast.stmt):
            self.assertIsInstance(node, STATEMENTS, where)
        methods = []
        for where, node in self.each(ast.ClassDef):
            self.assertEqual(node.decorator_list, [], where)
            self.assertRegex(node.name, r"^[A-Z]", where)
            for part in node.body:
                self.assertIsInstance(part, (ast.FunctionDef, ast.Expr), where)
            methods += [ast.dump(part) for part in node.body]
        for where, node in self.each(ast.FunctionDef):
            decorators = [ast.unparse(part) for part in node.decorator_list]
            self.assertIn(decorators, ([], ["property"], ["staticmethod"]), where)
            self.assertTrue(decorators == [] or ast.dump(node) in methods, where)

    def test_properties(self):
        properties = [node.name for _, node in self.each(ast.FunctionDef)
                      if [ast.unparse(part) for part in node.decorator_list] == ["property"]]
        for where, node in self.each(ast.FunctionDef):
            if node.name in properties:
                self.assertEqual(len(node.args.args), 1, where)
        for where, node in self.each(ast.Attribute):
            if isinstance(node.ctx, ast.Store):
                self.assertNotIn(node.attr, properties, where)
        self.assertFalse(set(properties) & BUILTIN_METHODS)

    def test_products_are_iterated_at_once(self):
        names = LIBRARY["itertools"]
        for where, node in self.each():
            for part in ast.iter_child_nodes(node):
                if isinstance(part, ast.Call) and ast.unparse(part.func) in names:
                    at_once = isinstance(node, (ast.For, ast.comprehension)) or (
                        isinstance(node, ast.Call) and ast.unparse(node.func) in ITERATING)
                    self.assertTrue(at_once, where)

    def test_expressions(self):
        for where, node in self.each():
            self.assertNotIsInstance(node, (ast.Div, ast.MatMult, ast.Await, ast.Set), where)
            if isinstance(node, ast.Constant):
                self.assertNotIsInstance(node.value, (float, complex), where)
                if isinstance(node.value, str):
                    self.assertNotIn("%", node.value, where)
            if isinstance(node, ast.Compare):
                for operator, right in zip(node.ops, node.comparators):
                    if isinstance(operator, (ast.Is, ast.IsNot)):
                        self.assertIn(ast.unparse(right), ("None", "True", "False"), where)

    def test_names(self):
        for name, tree in trees().items():
            taken = {alias.name for node in imports_of(tree) for alias in node.names}
            taken |= {node.name for node in tree.body if isinstance(node, ast.ClassDef)}
            for bound, line in bound_names(tree):
                where = f"{name}:{line} {bound}"
                if DOUBLES.fullmatch(bound):
                    continue
                self.assertRegex(bound, r"^(_?[A-Za-z][A-Za-z0-9_]*|_)$", where)
                self.assertFalse(hasattr(builtins, bound), where)
                self.assertNotIn(bound, BARRED, where)
                self.assertNotIn(bound, taken, where)

    def test_builtins(self):
        for where, node in self.each(ast.Name):
            self.assertNotIn(node.id, BARRED, where)
            if hasattr(builtins, node.id):
                self.assertIn(node.id, BUILTINS, where)

    def test_methods_and_attributes(self):
        """A name may be both in different classes only, and not with a decorator."""
        stored = {node.attr for _, node in self.each(ast.Attribute)
                  if isinstance(node.ctx, ast.Store)}
        for where, found in self.each(ast.ClassDef):
            methods = [node for node in found.body if isinstance(node, ast.FunctionDef)]
            own = {node.attr for node in ast.walk(found) if isinstance(node, ast.Attribute)
                   and isinstance(node.ctx, ast.Store) and ast.unparse(node.value) == "self"}
            self.assertFalse({node.name for node in methods} & own, where)
            decorated = {node.name for node in methods if node.decorator_list}
            self.assertFalse(decorated & stored, where)

    def test_methods_are_not_read_off_classes(self):
        """Otherwise no name could be a method and an attribute."""
        methods = {node.name for node in methods_in(trees()) if not node.decorator_list}
        classes = {node.name for _, node in self.each(ast.ClassDef)}
        for where, node in self.each(ast.Attribute):
            if ast.unparse(node.value) in classes:
                self.assertNotIn(node.attr, methods - {"__init__"}, where)

    def test_names_of_methods_and_attributes_are_not_called_unseen(self):
        files = trees()
        self.assertLessEqual({"left", "right"}, shared_names(files))
        self.assertEqual(unseen_calls(files), [])

    def test_that_unseen_calls_are_found(self):
        """The test of the package above would see such a call."""
        classes = """
class Side:
    def __init__(self, right):
        self.right = right

class Draft:
    def right(self, number):
        return number

def over(draft, row):
    return draft.right(row)

class Leader:
    def __init__(self, draft):
        self.draft = draft
        self.first = draft.right(0)

    def lead(self):
        return self.draft.right(1)
"""
        for method, wrong in (
            ("def __call__(self, row):\n return self.draft.right(row)", ["__call__"]),
            ("def __call__(self, row):\n return [(lambda: self.draft.right(0))]", ["__call__"]),
            ("def __call__(self, row):\n return over(self.draft, row)", []),
            ("def __call__(self, row):\n return row.right", []),
            ("def __len__(self):\n return len(over(self.draft, 1))", ["__len__"]),
            ("def __iter__(self):\n return iter(self.lead())", ["__iter__"]),
            ("@property\ndef many(self):\n return self.draft.right(1)", ["many"]),
            ("@property\ndef many(self):\n return self.lead()", ["many"]),
            ("@property\ndef many(self):\n return self.first", []),
            ("def many(self):\n return self.draft.right(1)", []),
        ):
            with self.subTest(method):
                files = {"odd.py": ast.parse(classes + textwrap.indent(method, "    "))}
                self.assertEqual(unseen_calls(files), [(name, ["right"]) for name in wrong])

    def test_attributes(self):
        methods = {node.name for _, found in self.each(ast.ClassDef) for node in found.body
                   if isinstance(node, ast.FunctionDef)}
        stored = {node.attr for _, node in self.each(ast.Attribute)
                  if isinstance(node.ctx, ast.Store)}
        self.assertFalse(stored & (BUILTIN_METHODS - ATTRIBUTES))
        for where, node in self.each(ast.Attribute):
            self.assertNotIn(node.attr, BARRED, where)
            if node.attr not in methods | stored:
                self.assertIn(node.attr, METHODS, where)

    def test_handlers(self):
        own = {node.name for _, node in self.each(ast.ClassDef)}
        for where, node in self.each(ast.ExceptHandler):
            self.assertIn(ast.unparse(node.type), own | {"KeyError", "ZeroDivisionError"}, where)
        for where, node in self.each(ast.Raise):
            if node.exc:
                self.assertIsInstance(node.exc, ast.Call, where)
                self.assertIn(node.exc.func.id, own, where)

    def test_words(self):
        for name, text in sources().items():
            code = re.sub(r'"""(.|\n)*?"""|#.*', "", text)
            for word in WORDS:
                self.assertIsNone(re.search(r"\b%s\b" % word, code), f"{name}: {word}")

    def test_generators_have_names_of_their_own(self):
        functions = [node for _, node in self.each(ast.FunctionDef)]
        yielding = [node.name for node in functions
                    if any(isinstance(part, (ast.Yield, ast.YieldFrom)) for part in ast.walk(node))]
        names = [node.name for node in functions]
        for name in yielding:
            self.assertEqual(names.count(name), 1, name)
            for where, node in self.each(ast.Name):
                self.assertFalse(node.id == name and isinstance(node.ctx, ast.Store), where)


if __name__ == "__main__":
    unittest.main()
