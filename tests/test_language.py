"""The form of the package's files, as far as it is easily seen, and point [2]: no clock, chance or files."""

import ast
import builtins
import pathlib
import re
import unittest

import threewebs

FOLDER = pathlib.Path(threewebs.__file__).parent
OWN_NAMES = set(
    "len range enumerate zip min max sum abs sorted reversed int str bool bytes list tuple dict set frozenset "
    "isinstance ord repr any all divmod Exception ValueError TypeError KeyError IndexError LookupError "
    "ZeroDivisionError ArithmeticError OverflowError RuntimeError NotImplementedError AttributeError "
    "StopIteration".split()
)
WORDS_OUT = re.compile(
    r"\b(type|typing|typing_extensions|enum|Enum|IntEnum|StrEnum|Flag|IntFlag|Generic|Protocol|ABC|ABCMeta|"
    r"namedtuple|NamedTuple|TypedDict|TYPE_CHECKING|abstractmethod)\b|dataclass|overload|contextmanager"
)
NODES_OUT = (
    ast.Import, ast.With, ast.Match, ast.Global, ast.Nonlocal, ast.Yield, ast.YieldFrom, ast.AsyncFunctionDef,
    ast.Await, ast.GeneratorExp, ast.NamedExpr, ast.Div,
)

METHODS = set(
    "append clear copy count endswith extend find get index insert isalnum isalpha isdigit islower isspace isupper "
    "items join keys ljust lower lstrip partition pop remove replace reverse rfind rjust rpartition rsplit rstrip "
    "setdefault split splitlines startswith strip update upper values zfill bit_length sort add discard".split()
)
WALKED = {"zip", "enumerate", "reversed", "range"}


def files():
    return sorted(FOLDER.rglob("*.py"))


def nodes():
    for file in files():
        for node in ast.walk(ast.parse(file.read_text(encoding="utf-8"))):
            yield file.name, node


def trees():
    return {file.stem: ast.parse(file.read_text(encoding="utf-8")) for file in files()}


def drawn(tree):
    """The pairs (module, name) that a file draws in."""
    rows = [node for node in ast.walk(tree) if isinstance(node, ast.ImportFrom)]
    return [(row.module.split(".")[1], one.name) for row in rows for one in row.names]


def bound_at_top(tree):
    names = [node.name for node in tree.body if isinstance(node, (ast.FunctionDef, ast.ClassDef))]
    targets = [target for node in tree.body if isinstance(node, ast.Assign) for target in node.targets]
    return names + [target.id for target in targets]


def stored_in_defs(tree):
    """Parameters, locals and the names of defs within defs."""
    for top in ast.walk(tree):
        if isinstance(top, ast.FunctionDef):
            for node in ast.walk(top):
                if isinstance(node, ast.Name) and isinstance(node.ctx, ast.Store):
                    yield node.id
                if isinstance(node, ast.arg):
                    yield node.arg
                if isinstance(node, ast.FunctionDef) and node != top:
                    yield node.name


class Form(unittest.TestCase):
    def test_nothing_but_plain_files(self):
        for path in FOLDER.iterdir():
            if path.name != "__pycache__":
                self.assertRegex(path.name, r"\A([a-z][a-z0-9_]*|__init__|__main__)\.py\Z")

    def test_signs_and_sizes(self):
        for file in files():
            data = file.read_bytes()
            self.assertTrue(all(code == 10 or 32 <= code <= 126 for code in data), file)
            lines = data.decode("ascii").split("\n")
            self.assertLessEqual(len(lines), 400, file)
            self.assertLessEqual(max(len(line) for line in lines), 120, file)

    def test_words_that_stand_nowhere(self):
        for file in files():
            self.assertIsNone(WORDS_OUT.search(file.read_text(encoding="utf-8")), file)

    def test_small_defs_without_decorators(self):
        for name, node in nodes():
            if isinstance(node, ast.FunctionDef):
                self.assertLessEqual(node.end_lineno - node.lineno + 1, 40, (name, node.name))
                self.assertEqual(node.decorator_list, [], (name, node.name))

    def test_imports_of_the_package_alone(self):
        for name, node in nodes():
            if isinstance(node, ast.ImportFrom):
                self.assertEqual(node.level, 0, name)
                self.assertRegex(node.module, r"\Athreewebs\.[a-z][a-z0-9_]*\Z", name)
                self.assertNotIn("*", [one.name for one in node.names], name)

    def test_statements_that_are_out(self):
        for name, node in nodes():
            self.assertNotIsInstance(node, NODES_OUT, name)
            if isinstance(node, (ast.For, ast.While)):
                self.assertEqual(node.orelse, [], name)

    def test_names_of_pythons_own(self):
        for name, node in nodes():
            if isinstance(node, ast.Name):
                self.assertFalse(hasattr(builtins, node.id) and node.id not in OWN_NAMES, (name, node.id))
                self.assertFalse(node.id.startswith("_"), (name, node.id))
                self.assertFalse(isinstance(node.ctx, ast.Store) and node.id in OWN_NAMES, (name, node.id))
            if isinstance(node, ast.arg):
                self.assertFalse(hasattr(builtins, node.arg) or node.arg.startswith("_"), (name, node.arg))

    def test_each_name_is_drawn_from_the_file_that_defines_it(self):
        tops = {stem: bound_at_top(tree) for stem, tree in trees().items()}
        for stem, tree in trees().items():
            names = [name for module, name in drawn(tree)]
            self.assertEqual(len(names + tops[stem]), len(set(names + tops[stem])), stem)
            for module, name in drawn(tree):
                self.assertIn(name, tops[module], stem)

    def test_no_two_files_draw_from_one_another(self):
        left = {stem: {module for module, name in drawn(tree)} for stem, tree in trees().items()}
        while left:
            free = [stem for stem in left if not left[stem] & set(left)]
            self.assertTrue(free, sorted(left))
            left = {stem: left[stem] for stem in left if stem not in free}

    def test_no_local_is_called_like_an_import_or_a_class(self):
        for stem, tree in trees().items():
            outer = {name for module, name in drawn(tree)}
            outer |= {node.name for node in tree.body if isinstance(node, ast.ClassDef)}
            for name in stored_in_defs(tree):
                self.assertNotIn(name, outer, stem)
                self.assertFalse(hasattr(builtins, name), (stem, name))

    def test_methods(self):
        own = {node.name for name, node in nodes() if isinstance(node, ast.FunctionDef)}
        for name, node in nodes():
            if isinstance(node, ast.Call) and isinstance(node.func, ast.Attribute):
                self.assertIn(node.func.attr, METHODS | own, name)

    def test_no_name_is_a_method_and_a_value(self):
        classes = [node for name, node in nodes() if isinstance(node, ast.ClassDef)]
        methods = {each.name for node in classes for each in node.body if isinstance(each, ast.FunctionDef)}
        for name, node in nodes():
            if isinstance(node, ast.Attribute) and isinstance(node.ctx, ast.Store):
                self.assertNotIn(node.attr, methods, name)

    def test_classes_hold_methods_and_words_alone(self):
        for name, node in nodes():
            if isinstance(node, ast.ClassDef):
                for each in node.body:
                    words = isinstance(each, ast.Expr) and isinstance(each.value, ast.Constant)
                    self.assertTrue(words or isinstance(each, ast.FunctionDef), (name, node.name))
                self.assertLessEqual(len(node.bases), 1)
                self.assertEqual(node.decorator_list + node.keywords, [])

    def test_what_is_walked_on_the_spot_is_not_kept(self):
        for name, node in nodes():
            if isinstance(node, (ast.Assign, ast.Return)) and isinstance(node.value, ast.Call):
                called = node.value.func
                word = called.id if isinstance(called, ast.Name) else called.attr
                self.assertNotIn(word, WALKED | {"items", "keys", "values"}, name)

    def test_no_float_and_no_percent_sign_in_a_text(self):
        for name, node in nodes():
            if isinstance(node, ast.Constant):
                self.assertNotIsInstance(node.value, (float, complex), name)
                if isinstance(node.value, str):
                    self.assertNotIn(chr(37), node.value, name)


if __name__ == "__main__":
    unittest.main()
