"""The rules of LANGUAGE.md that can be seen in the package's text, by the rules' numbers."""

import ast
import builtins
import pathlib
import re
import unittest

PACKAGE = pathlib.Path(__file__).resolve().parent.parent / "callwords"
FILES = sorted(PACKAGE.rglob("*.py"))
LIBRARY = {
    "heapq": {"heappush", "heappop", "heapify", "heapreplace", "heappushpop"},
    "math": {"gcd", "lcm", "isqrt", "comb", "perm", "factorial"},
    "itertools": {"product", "combinations", "permutations"},
}
BUILTINS = set(
    "len range enumerate zip min max sum abs sorted reversed int str bool bytes list tuple dict set frozenset isinstance"
    " ord repr any all divmod iter next map super property staticmethod classmethod Exception ValueError TypeError"
    " KeyError IndexError LookupError ZeroDivisionError ArithmeticError OverflowError RuntimeError NotImplementedError"
    " AttributeError StopIteration NotImplemented".split()
)
METHODS = set(
    "append clear copy count endswith extend find get index insert isalnum isalpha isdigit islower isspace isupper items"
    " join keys ljust lower lstrip partition pop remove replace reverse rfind rjust rpartition rsplit rstrip setdefault"
    " split splitlines startswith strip update upper values zfill bit_length title capitalize swapcase casefold center"
    " expandtabs removeprefix removesuffix rindex isascii isdecimal isnumeric istitle isidentifier isprintable translate"
    " add discard sort __init__".split()
)
NOT_ALLOWED = (
    ast.Global, ast.AsyncFunctionDef, ast.AsyncFor, ast.AsyncWith, ast.Await, ast.Div, ast.MatMult, ast.TryStar,
)
BARRED_WORDS = set(
    "type typing typing_extensions enum Enum IntEnum StrEnum Flag IntFlag Generic Protocol ABC ABCMeta namedtuple"
    " NamedTuple TypedDict TYPE_CHECKING abstractmethod register mro elements open input law version_info with_traceback"
    " add_note attrgetter breakpoint compile copyright credits delattr dir eval exec exit gc getattr globals hasattr help"
    " id importlib license locals methodcaller os quit setattr vars sys chr print".split()
)


def nodes():
    """Each file, and each node of it."""
    for path in FILES:
        for node in ast.walk(ast.parse(path.read_text())):
            yield path.name, node


def bound_names(node):
    """The names that a node binds."""
    if isinstance(node, (ast.FunctionDef, ast.ClassDef)):
        return [node.name]
    if isinstance(node, ast.arg):
        return [node.arg]
    if isinstance(node, ast.Name) and isinstance(node.ctx, ast.Store):
        return [node.id]
    return []


class LanguageTests(unittest.TestCase):
    """Each test names its rule."""

    def test_l1_and_l14_the_folder_holds_plain_python_files_alone(self):
        self.assertIn("__init__.py", [path.name for path in FILES])
        for path in PACKAGE.iterdir():
            if path.name != "__pycache__":
                self.assertRegex(path.name, r"\A(__init__|[a-z][a-z0-9_]*)\.py\Z")

    def test_l2_and_l16_imports_are_from_files_of_the_package(self):
        for file, node in nodes():
            self.assertNotIsInstance(node, ast.Import, file)
            if isinstance(node, ast.ImportFrom):
                names = {alias.name for alias in node.names}
                self.assertEqual((node.level, names & {"*"}), (0, set()))
                if node.module in LIBRARY:
                    self.assertLessEqual(names, LIBRARY[node.module])
                else:
                    source = PACKAGE.parent / (node.module.replace(".", "/") + ".py")
                    self.assertEqual(source.parent, PACKAGE)
                    body = ast.parse(source.read_text()).body
                    own = {name for row in body for part in [row] + getattr(row, "targets", []) for name in bound_names(part)}
                    self.assertLessEqual(names, own, file)

    def test_l3_module_level_holds_definitions_and_plain_values(self):
        for path in FILES:
            for row in ast.parse(path.read_text()).body:
                plain = isinstance(row, (ast.ImportFrom, ast.FunctionDef, ast.ClassDef, ast.Assign))
                self.assertTrue(plain or isinstance(row, ast.Expr) and isinstance(row.value, ast.Constant), path.name)
                if isinstance(row, ast.Assign):
                    self.assertEqual([type(target) for target in row.targets], [ast.Name])
                    self.assertFalse([part for part in ast.walk(row) if isinstance(part, (ast.Call, ast.ListComp))])

    def test_l4_to_l7_statements_and_expressions(self):
        for file, node in nodes():
            self.assertNotIsInstance(node, NOT_ALLOWED, file)
            if isinstance(node, ast.Constant):
                self.assertNotIsInstance(node.value, (float, complex, type(...)), file)

    def test_l2_what_the_library_gives_is_iterated_at_once(self):
        for path in FILES:
            tree = ast.parse(path.read_text())
            rows = [row for row in tree.body if isinstance(row, ast.ImportFrom) and row.module == "itertools"]
            names = [alias.name for row in rows for alias in row.names]
            loops = [node.iter for node in ast.walk(tree) if isinstance(node, ast.For)]
            heads = [part.func for part in loops if isinstance(part, ast.Call)]
            for node in ast.walk(tree):
                if isinstance(node, ast.Name) and node.id in names:
                    self.assertIn(node, heads, path.name)

    def test_l2_what_the_library_gives_is_only_called(self):
        for path in FILES:
            tree = ast.parse(path.read_text())
            rows = [row for row in tree.body if isinstance(row, ast.ImportFrom) and row.module in LIBRARY]
            names = {alias.name for row in rows for alias in row.names}
            called = [node.func for node in ast.walk(tree) if isinstance(node, ast.Call)]
            for node in ast.walk(tree):
                if isinstance(node, ast.Name) and node.id in names:
                    self.assertIn(node, called, path.name)

    def test_l5_double_underscore_methods(self):
        for file, node in nodes():
            if isinstance(node, ast.ClassDef):
                names = [part.name for part in node.body if isinstance(part, ast.FunctionDef)]
                special = {name for name in names if name.startswith("__")}
                self.assertLessEqual(special, {"__init__", "__eq__", "__len__"}, (file, node.name))
                self.assertEqual(len(set(names)), len(names), (file, node.name))

    def test_l7_lists_where_a_class_has_an_eq_of_its_own(self):
        for file, node in nodes():
            self.assertNotIsInstance(node, ast.GeneratorExp, file)

    def test_l7_behind_a_star_of_a_call_stands_a_name(self):
        for file, node in nodes():
            if isinstance(node, ast.Call):
                for part in node.args:
                    if isinstance(part, ast.Starred):
                        self.assertIsInstance(part.value, (ast.Name, ast.Attribute), file)
                self.assertTrue(all(word.arg for word in node.keywords), file)

    def test_l6_what_stands_in_a_finally(self):
        for file, node in nodes():
            for row in getattr(node, "finalbody", []):
                for part in ast.walk(row):
                    self.assertNotIsInstance(part, (ast.Subscript, ast.Raise, ast.Return, ast.Try, ast.For, ast.While), file)
                    if isinstance(part, ast.Call):
                        self.assertIn(part.func.attr, ("append", "clear"), file)
                    if isinstance(part, ast.If):
                        self.assertIsInstance(part.test.ops[0], (ast.Is, ast.IsNot), file)

    def test_l8_builtins(self):
        for file, node in nodes():
            if isinstance(node, ast.Name) and hasattr(builtins, node.id):
                self.assertIn(node.id, BUILTINS, file)
            for name in bound_names(node):
                self.assertFalse(hasattr(builtins, name) and not name.startswith("__"), (file, name))

    def test_l10_sizes(self):
        for path in FILES:
            rows = path.read_text().split("\n")
            self.assertLessEqual(len(rows), 399, path.name)
            self.assertLessEqual(max([len(row) for row in rows]), 120, path.name)
        for file, node in nodes():
            if isinstance(node, ast.FunctionDef):
                self.assertLessEqual(node.end_lineno - node.lineno + 1, 40, (file, node.name))

    def test_l12_plain_names(self):
        for _, node in nodes():
            for name in bound_names(node):
                if not re.fullmatch(r"__[a-z]+__", name):
                    self.assertRegex(name, r"\A(_|_?[A-Za-z][A-Za-z0-9_]*)\Z")
                self.assertNotRegex(name, r"\A_(wall|pe_|dcw_|enum_|cm_|twin_re_|lay_|law_|stub_|sre|WallAttr)")
                self.assertNotRegex(name, r"\A_(cold|tuplegetter|outside|record|written_out|member_names)[0-9_]*\Z")

    def test_l14_characters(self):
        for path in FILES:
            self.assertRegex(path.read_text(), r"\A[ -~\n]*\Z")

    def test_l15_names_are_bound_once_and_hide_nothing(self):
        for path in FILES:
            tree = ast.parse(path.read_text())
            imported = [alias.name for row in tree.body if isinstance(row, ast.ImportFrom) for alias in row.names]
            own = [name for row in tree.body for part in [row] + getattr(row, "targets", []) for name in bound_names(part)]
            self.assertEqual(len(own + imported), len(set(own + imported)), path.name)
            local = [name for row in tree.body for node in ast.walk(row) if node is not row for name in bound_names(node)]
            self.assertFalse(set(local) & set(imported), path.name)

    def test_l16_no_two_files_import_from_each_other(self):
        needs = {path.stem: set() for path in FILES}
        for file, node in nodes():
            if isinstance(node, ast.ImportFrom) and node.module not in LIBRARY:
                needs[file[:-3]].add(node.module.split(".")[-1])
        while needs:
            free = [name for name in needs if not needs[name] & set(needs)]
            self.assertTrue(free, needs)
            needs = {name: needs[name] for name in needs if name not in free}

    def test_l17_words_that_are_not_used(self):
        for file, node in nodes():
            words = bound_names(node)
            if isinstance(node, ast.Name):
                words = [node.id]
            elif isinstance(node, ast.Attribute):
                words = [node.attr]
            self.assertFalse(set(words) & BARRED_WORDS, file)

    def test_l17_words_that_occur_nowhere(self):
        for path in FILES:
            code = re.sub(r'"""(.|\n)*?"""|#.*', "", path.read_text())
            self.assertNotRegex(code, r"\b(type|typing|enum|Enum|Flag|Generic|Protocol|ABC|namedtuple|TypedDict)\b", path.name)

    def test_l18_no_name_is_a_method_and_an_attribute(self):
        bodies = [node.body for _, node in nodes() if isinstance(node, ast.ClassDef)]
        methods = {part.name for body in bodies for part in body if isinstance(part, ast.FunctionDef)}
        attributes = [node for _, node in nodes() if isinstance(node, ast.Attribute)]
        stored = {node.attr for node in attributes if isinstance(node.ctx, ast.Store)}
        self.assertEqual(methods & stored, set())

    def test_l19_own_errors_alone_are_caught(self):
        for file, node in nodes():
            if isinstance(node, ast.ExceptHandler):
                caught = node.type.elts if isinstance(node.type, ast.Tuple) else [node.type]
                for name in caught:
                    self.assertFalse(hasattr(builtins, name.id), file)

    def test_l19_errors_are_made_on_the_spot(self):
        for file, node in nodes():
            if isinstance(node, ast.Raise) and node.exc is not None:
                self.assertIsInstance(node.exc, ast.Call, file)
                self.assertIsInstance(node.exc.func, ast.Name, file)

    def test_l20_is_stands_beside_none_true_false(self):
        for file, node in nodes():
            if isinstance(node, ast.Compare) and isinstance(node.ops[0], (ast.Is, ast.IsNot)):
                self.assertIn(getattr(node.comparators[0], "value", "no"), (None, True, False), file)

    def test_l24_sets_are_not_iterated_or_handed_on(self):
        for file, node in nodes():
            for part in ast.iter_child_nodes(node):
                made = isinstance(part, ast.Call) and getattr(part.func, "id", "") == "set"
                if made or isinstance(part, (ast.Set, ast.SetComp)):
                    called = getattr(getattr(node, "func", None), "id", "")
                    standing = isinstance(node, (ast.Assign, ast.Compare, ast.BinOp))
                    self.assertTrue(standing or called in ("len", "sorted"), file)

    def test_l25_methods(self):
        own = {node.name for _, node in nodes() if isinstance(node, ast.FunctionDef)}
        for file, node in nodes():
            if isinstance(node, ast.Call) and isinstance(node.func, ast.Attribute):
                self.assertIn(node.func.attr, METHODS | own, file)

    def test_l27_strings(self):
        for file, node in nodes():
            if isinstance(node, ast.Constant) and isinstance(node.value, str):
                self.assertNotIn(chr(37), node.value, file)
                self.assertNotRegex(node.value, r"\._+\Z|\A__.*__\Z")
            if isinstance(node, ast.BinOp) and isinstance(node.op, ast.Pow):
                self.assertTrue(0 <= node.right.value <= 64, file)
        for path in FILES:
            self.assertNotRegex(path.read_text(), r"""(?<!\\)(\\\\)*\\[^nt\\'"]""", path.name)


if __name__ == "__main__":
    unittest.main()
