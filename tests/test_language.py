"""The package's own files against the rules of ../shared/LANGUAGE.md that a walk over them can see."""

import ast
import builtins
import pathlib
import re
import unittest

PACKAGE = pathlib.Path(__file__).resolve().parent.parent / "standingwarnings"
FILES = sorted(path for path in PACKAGE.rglob("*") if "__pycache__" not in path.parts and path.is_file())

STATEMENTS = (ast.Assign, ast.AugAssign, ast.If, ast.While, ast.For, ast.Return, ast.Break, ast.Continue, ast.Pass,
              ast.Raise, ast.Try, ast.FunctionDef, ast.ClassDef, ast.ImportFrom, ast.Expr)
BANNED = (ast.GeneratorExp, ast.SetComp, ast.DictComp, ast.NamedExpr, ast.Starred, ast.Div, ast.Await, ast.Yield,
          ast.YieldFrom, ast.Set)
OWN_NAMES = """len range enumerate zip min max sum abs sorted reversed int str bool list tuple dict set frozenset
    isinstance ord repr any all divmod Exception ValueError TypeError KeyError IndexError LookupError
    ZeroDivisionError ArithmeticError OverflowError RuntimeError NotImplementedError StopIteration""".split()
METHODS = """append clear copy count endswith extend find get index insert isalnum isalpha isdigit islower isspace
    isupper items join keys ljust lower lstrip partition pop remove replace reverse rfind rjust rpartition rsplit
    rstrip setdefault split splitlines startswith strip update upper values zfill bit_length""".split()
WORDS = """type typing typing_extensions enum Enum IntEnum StrEnum Flag IntFlag Generic Protocol ABC ABCMeta
    namedtuple NamedTuple TypedDict TYPE_CHECKING abstractmethod""".split()
NOT_NAMES = """register mro elements open input version_info with_traceback add_note attrgetter breakpoint builtins
    compile copyright credits delattr dir eval exec exit gc getattr globals hasattr help id importlib license locals
    methodcaller os quit setattr super type vars sys""".split()


def walked(path):
    return list(ast.walk(ast.parse(path.read_text())))


class Language(unittest.TestCase):
    def test_files_l1_l14(self):
        self.assertIn("__init__.py", [path.name for path in FILES])
        for path in FILES:
            self.assertRegex(path.name, r"^([a-z][a-z0-9_]*|__init__)\.py$")
            self.assertNotIn(path.stem, dir(builtins) + WORDS)

    def test_size_and_signs_l10_l14(self):
        for path in FILES:
            text = path.read_bytes().decode("ascii")
            self.assertIsNone(re.search(r"[^ -~\n]", text), path)
            lines = text.splitlines()
            self.assertLessEqual(len(lines), 400, path)
            self.assertLessEqual(max(len(line) for line in lines), 120, path)
            for node in walked(path):
                if isinstance(node, ast.FunctionDef):
                    self.assertLessEqual(node.end_lineno - node.lineno + 1, 40, (path, node.name))

    def test_words_l17(self):
        for path in FILES:
            words = re.findall(r"\w+", path.read_text())
            self.assertEqual([word for word in words if word in WORDS], [], path)
            self.assertEqual([w for w in words if re.search("dataclass|overload|contextmanager", w)], [], path)

    def test_imports_l2_l16(self):
        for path in FILES:
            for node in walked(path):
                self.assertNotIsInstance(node, ast.Import, path)
                if isinstance(node, ast.ImportFrom):
                    self.assertEqual(node.level, 0)
                    home = PACKAGE.parent.joinpath(*node.module.split(".")).with_suffix(".py")
                    self.assertIn(home, FILES)
                    defined = self.top_names(home)
                    for alias in node.names:
                        self.assertIn(alias.name, defined, (path, node.lineno))

    def test_no_two_files_draw_from_one_another_l16(self):
        drawn = {path.stem: [node.module.split(".")[-1] for node in walked(path) if isinstance(node, ast.ImportFrom)]
                 for path in FILES}
        settled = []
        while len(settled) < len(drawn):
            ready = [name for name in drawn if name not in settled and not set(drawn[name]) - set(settled)]
            self.assertTrue(ready, sorted(set(drawn) - set(settled)))
            settled += ready

    def top_names(self, path):
        names = []
        for node in ast.parse(path.read_text()).body:
            if isinstance(node, (ast.FunctionDef, ast.ClassDef)):
                names.append(node.name)
            if isinstance(node, ast.Assign):
                names += [target.id for target in node.targets]
        return names

    def test_the_top_of_a_module_l3_l15(self):
        for path in FILES:
            body = ast.parse(path.read_text()).body
            self.assertIsInstance(body[0], ast.Expr, path)
            for node in body[1:]:
                self.assertIsInstance(node, (ast.ImportFrom, ast.FunctionDef, ast.ClassDef, ast.Assign), path)
            names = self.top_names(path)
            self.assertEqual(len(names), len(set(names)), path)

    def test_statements_and_values_l6_l7(self):
        for path in FILES:
            for node in walked(path):
                if isinstance(node, ast.stmt):
                    self.assertIsInstance(node, STATEMENTS, (path, node.lineno))
                self.assertNotIsInstance(node, BANNED, path)
                if isinstance(node, (ast.For, ast.While)):
                    self.assertEqual(node.orelse, [], (path, node.lineno))
                if isinstance(node, ast.Assign):
                    self.assertEqual(len(node.targets), 1, (path, node.lineno))
                if isinstance(node, ast.Constant):
                    self.assertIsInstance(node.value, (int, str, type(None)), (path, node.lineno))
                if isinstance(node, ast.ListComp):
                    self.assertEqual(len(node.generators), 1)
                    self.assertLessEqual(len(node.generators[0].ifs), 1)

    def test_functions_and_classes_l4_l5(self):
        for path in FILES:
            for node in walked(path):
                if isinstance(node, ast.FunctionDef):
                    plain = node.args
                    self.assertEqual((node.decorator_list, plain.vararg, plain.kwarg, plain.kwonlyargs,
                                      plain.posonlyargs), ([], None, None, [], []), (path, node.name))
                if isinstance(node, ast.ClassDef):
                    self.assertEqual(node.decorator_list, [])
                    for inner in node.body:
                        self.assertIsInstance(inner, ast.FunctionDef, (path, node.name))

    def test_names_l8_l12_l15_l17(self):
        for path in FILES:
            tree = ast.parse(path.read_text())
            taken = [alias.name for node in ast.walk(tree) if isinstance(node, ast.ImportFrom) for alias in node.names]
            for node in ast.walk(tree):
                if isinstance(node, ast.Name) and isinstance(node.ctx, ast.Load) and node.id in dir(builtins):
                    self.assertIn(node.id, OWN_NAMES, (path, node.lineno))
                for name in self.bound(node):
                    self.assertNotIn(name, dir(builtins) + NOT_NAMES + taken, path)
                    self.assertRegex(name, r"^([A-Za-z][A-Za-z0-9_]*|__init__)$", path)

    def bound(self, node):
        if isinstance(node, ast.Name) and isinstance(node.ctx, ast.Store):
            return [node.id]
        if isinstance(node, ast.arg):
            return [node.arg]
        if isinstance(node, (ast.FunctionDef, ast.ClassDef)):
            return [node.name]
        return []

    def test_methods_l25(self):
        for path in FILES:
            for node in walked(path):
                if isinstance(node, ast.Call) and isinstance(node.func, ast.Attribute):
                    self.assertIn(node.func.attr, METHODS, (path, node.lineno))

    def test_is_l20(self):
        for path in FILES:
            for node in walked(path):
                if isinstance(node, ast.Compare) and isinstance(node.ops[0], (ast.Is, ast.IsNot)):
                    self.assertIsInstance(node.comparators[0], ast.Constant, (path, node.lineno))


if __name__ == "__main__":
    unittest.main()
