"""Some rules of LANGUAGE.md, where a look at the package's files can tell; the number stands at each test."""

import ast
import builtins
import pathlib
import re
import unittest

FOLDER = pathlib.Path(__file__).resolve().parent.parent / "laidsheets"

BUILTINS = """len range enumerate zip min max sum abs sorted reversed int str bool list tuple dict set isinstance ord repr
any all divmod pow Exception ValueError TypeError KeyError IndexError LookupError ZeroDivisionError ArithmeticError
OverflowError RuntimeError NotImplementedError StopIteration NotImplemented super map iter next""".split()

METHODS = """append clear copy count endswith extend find get index insert isalnum isalpha isdigit islower isspace isupper
items join keys ljust lower lstrip partition pop remove replace reverse rfind rjust rpartition rsplit rstrip setdefault
split splitlines startswith strip update upper values zfill bit_length sort add discard __init__""".split()

SPECIAL = "__init__ __eq__ __repr__ __str__ __len__".split()

WORDS = """typing typing_extensions enum Enum IntEnum StrEnum Flag IntFlag Generic Protocol ABC ABCMeta namedtuple
NamedTuple TypedDict TYPE_CHECKING abstractmethod dataclass overload contextmanager register mro elements open input law
version_info with_traceback add_note chr float format eval exec global async await""".split()

BARRED = (ast.AsyncFor, ast.AsyncFunctionDef, ast.AsyncWith, ast.Await, ast.Div, ast.FloorDiv, ast.GeneratorExp,
          ast.Global, ast.Import, ast.JoinedStr, ast.MatMult, ast.Set, ast.SetComp, ast.Starred, ast.Try, ast.With,
          ast.Yield, ast.YieldFrom)


def own_names(tree):
    """All names that a file binds, anywhere."""
    found = []
    for node in ast.walk(tree):
        if isinstance(node, (ast.FunctionDef, ast.ClassDef)):
            found.append(node.name)
        elif isinstance(node, ast.arg):
            found.append(node.arg)
        elif isinstance(node, ast.Name) and not isinstance(node.ctx, ast.Load) and node.id != "_":
            found.append(node.id)
    return found


class Language(unittest.TestCase):
    def setUp(self):
        self.texts = {path.name: path.read_text(encoding="utf-8") for path in sorted(FOLDER.glob("*.py"))}
        self.trees = {name: ast.parse(self.texts[name]) for name in self.texts}

    def nodes(self, *kinds):
        """All nodes of some kinds, with the place for a message."""
        return [(node, f"{name}:{getattr(node, 'lineno', 0)}") for name in self.trees
                for node in ast.walk(self.trees[name]) if isinstance(node, kinds)]

    def test_l1_l14_files(self):
        self.assertIn("__init__.py", self.texts)
        here = [path.name for path in FOLDER.iterdir() if path.name != "__pycache__"]
        self.assertEqual(sorted(here), sorted(self.texts))
        for name in self.texts:
            self.assertRegex(name, r"^[a-z0-9_]+\.py$")
            self.assertRegex(self.texts[name], r"\A[ -~\n]*\Z")

    def test_l10_size(self):
        for name in self.texts:
            lines = self.texts[name].splitlines()
            self.assertLess(len(lines), 400, name)
            self.assertLessEqual(max(map(len, lines)), 120, name)
        for node, place in self.nodes(ast.FunctionDef):
            self.assertLessEqual(node.end_lineno - node.lineno + 1, 40, place)

    def test_l2_l16_imports(self):
        ahead = {}
        for name in self.trees:
            ahead[name] = []
            for node in ast.walk(self.trees[name]):
                if isinstance(node, ast.ImportFrom):
                    self.assertIn(node, self.trees[name].body)
                    self.assertEqual(node.level, 0)
                    package, _, module = node.module.partition(".")
                    self.assertEqual(package, "laidsheets")
                    top = own_names(ast.Module(self.trees[module + ".py"].body, []))
                    self.assertTrue(all(alias.asname is None and alias.name in top for alias in node.names), node.module)
                    ahead[name].append(module + ".py")
        while ahead:
            free = [name for name in ahead if not any(other in ahead for other in ahead[name])]
            self.assertTrue(free, f"files that import one another: {list(ahead)}")
            ahead = {name: ahead[name] for name in ahead if name not in free}

    def test_l3_l15_module_level(self):
        for name in self.trees:
            bound = []
            for node in self.trees[name].body:
                self.assertIsInstance(node, (ast.Expr, ast.ImportFrom, ast.FunctionDef, ast.ClassDef, ast.Assign))
                if isinstance(node, ast.Assign):
                    ast.literal_eval(node.value)
                bound += own_names(ast.Module([node], []))[:1]
                bound += [alias.name for alias in node.names] if isinstance(node, ast.ImportFrom) else []
            self.assertEqual(len(set(bound)), len(bound), name)

    def test_l8_l12_l15_names(self):
        for name in self.trees:
            brought = [alias.name for node in self.trees[name].body if isinstance(node, ast.ImportFrom)
                       for alias in node.names]
            for word in own_names(self.trees[name]):
                self.assertNotIn(word, brought, name)
                self.assertTrue(word in SPECIAL or not hasattr(builtins, word), f"{name}: {word}")
                self.assertTrue(word in SPECIAL or re.fullmatch(r"_?[A-Za-z][A-Za-z0-9_]*", word), f"{name}: {word}")
            for word in re.findall(r"[A-Za-z_]+", ast.unparse(self.trees[name])):
                self.assertNotIn(word, WORDS, name)
        for node, place in self.nodes(ast.Name):
            if node.id == "_":
                self.assertNotIsInstance(node.ctx, ast.Load, place)
            elif hasattr(builtins, node.id):
                self.assertIn(node.id, BUILTINS, place)

    def test_l4_l6_l7_l23_l24_kinds_of_code(self):
        for node, place in self.nodes(*BARRED):
            if not isinstance(node, ast.JoinedStr):
                self.fail(f"{place}: {type(node).__name__}")
            self.assertTrue(all(part.format_spec is None for part in node.values if isinstance(part, ast.FormattedValue)))
        for node, place in self.nodes(ast.FunctionDef, ast.ClassDef):
            self.assertEqual(node.decorator_list, [], place)
        for node, place in self.nodes(ast.Constant):
            self.assertNotIsInstance(node.value, float, place)

    def test_l20_is(self):
        for node, place in self.nodes(ast.Compare):
            for sign, right in zip(node.ops, node.comparators):
                if isinstance(sign, (ast.Is, ast.IsNot)):
                    self.assertIsInstance(right, ast.Constant, place)
                    self.assertIn(right.value, (None, True, False), place)

    def test_l25_l26_attributes(self):
        own = [node.attr for node, _ in self.nodes(ast.Attribute) if isinstance(node.ctx, ast.Store)]
        own += [node.name for node, _ in self.nodes(ast.FunctionDef)]
        for node, place in self.nodes(ast.Attribute):
            self.assertTrue(node.attr in METHODS or node.attr in own, f"{place}: {node.attr}")

    def test_l24_a_set_stands_in_sorted_or_len(self):
        places = [node.args[0] for node, _ in self.nodes(ast.Call)
                  if isinstance(node.func, ast.Name) and node.func.id in ("sorted", "len") and not node.keywords]
        for node, place in self.nodes(ast.Call):
            if isinstance(node.func, ast.Name) and node.func.id in ("set", "frozenset"):
                self.assertIn(node, places, place)

    def test_l22_keywords(self):
        for node, place in self.nodes(ast.Call):
            self.assertTrue(all(word.arg in ("key", "reverse", "default", "start") for word in node.keywords), place)

    def test_l27_strings(self):
        for node, place in self.nodes(ast.Constant):
            if isinstance(node.value, str):
                self.assertNotIn("%", node.value, place)
                self.assertFalse(node.value.startswith("__") and node.value.endswith("__"), place)


if __name__ == "__main__":
    unittest.main()
