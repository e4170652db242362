"""Those rules of the project's language that can be looked at plainly, for each file of the package."""

import ast
import builtins
import re
import unittest
from pathlib import Path

PACKAGE = Path(__file__).resolve().parent.parent / "beatflows"
FILES = sorted(PACKAGE.rglob("*.py"))

LIBRARY = {
    "heapq": {"heappush", "heappop", "heapify", "heapreplace", "heappushpop"},
    "math": {"gcd", "lcm", "isqrt", "comb", "perm", "factorial"},
    "itertools": {"product", "combinations", "permutations"},
}

BUILTINS = set(
    "len range enumerate zip min max sum abs sorted reversed int str bool bytes list tuple dict set isinstance ord repr any all"
    " divmod iter next map super property staticmethod classmethod Exception ValueError TypeError KeyError IndexError LookupError"
    " ZeroDivisionError ArithmeticError OverflowError RuntimeError NotImplementedError AttributeError StopIteration"
    " NotImplemented object".split()
)

METHODS = set(
    "append clear copy count endswith extend find get index insert isalnum isalpha isdigit islower isspace isupper items join"
    " keys ljust lower lstrip partition pop remove replace reverse rfind rjust rpartition rsplit rstrip setdefault split"
    " splitlines startswith strip update upper values zfill bit_length add discard sort removeprefix removesuffix rindex".split()
)

SPECIAL = set(
    "__init__ __eq__ __repr__ __str__ __len__ __enter__ __exit__ __call__ __iter__ __lt__ __le__ __gt__ __ge__ __ne__"
    " __contains__ __getitem__ __setitem__ __bool__".split()
)

UNUSED_WORDS = re.compile(r"\b(register|mro|elements|open|input|law|eval|exec|getattr|setattr|hasattr|globals|locals|vars)\b")

BARRED_NAMES = re.compile(r"_(wall|pe_|dcw_|enum_|cm_|twin_re_|lay_|law_|stub_|sre|WallAttr).*|_(cold|tuplegetter|outside|record|written_out|member_names)[0-9_]*")

BARRED_NODES = (
    ast.Global, ast.AsyncFunctionDef, ast.AsyncFor, ast.AsyncWith, ast.Await, ast.Div, ast.Import, ast.MatMult, ast.AnnAssign,
)


def tree_of(path):
    return ast.parse(path.read_text(encoding="utf-8"), str(path))


def imported(tree):
    return [node for node in ast.walk(tree) if isinstance(node, ast.ImportFrom)]


def builtin_methods():
    kinds = (str, bytes, int, list, tuple, dict, set)
    return {name for kind in kinds for name in dir(kind) if not name.startswith("_")}


class Language(unittest.TestCase):
    def each(self):
        self.assertTrue(FILES)
        for path in FILES:
            with self.subTest(file=path.name):
                yield path, path.read_text(encoding="utf-8"), tree_of(path)

    def test_the_folder_holds_plain_files_alone(self):
        self.assertIn(PACKAGE / "__init__.py", FILES)
        for path in PACKAGE.rglob("*"):
            if "__pycache__" not in path.parts:
                self.assertRegex(path.name, r"\A[a-z0-9_]+(\.py)?\Z")

    def test_sizes_and_signs(self):
        for path, text, tree in self.each():
            rows = text.split("\n")
            self.assertLessEqual(len(rows) - 1, 399)
            self.assertLessEqual(max(len(row) for row in rows), 120)
            self.assertEqual([sign for sign in text if sign != "\n" and not " " <= sign <= "~"], [])
            for node in ast.walk(tree):
                if isinstance(node, ast.FunctionDef):
                    self.assertLessEqual(node.end_lineno - node.lineno + 1, 40, node.name)

    def test_imports(self):
        for path, _, tree in self.each():
            for node in imported(tree):
                names = {one.name for one in node.names}
                self.assertEqual([one.asname for one in node.names if one.asname], [])
                self.assertEqual(node.level, 0)
                if node.module in LIBRARY:
                    self.assertLessEqual(names, LIBRARY[node.module])
                else:
                    self.assertRegex(node.module, r"\Abeatflows\.[a-z_]+\Z")
                    told = tree_of(PACKAGE / (node.module.partition(".")[2] + ".py"))
                    self.assertLessEqual(names, self.bound(told), node.module)

    def bound(self, tree):
        names = {node.name for node in tree.body if isinstance(node, (ast.FunctionDef, ast.ClassDef))}
        for node in tree.body:
            if isinstance(node, ast.Assign):
                names |= {target.id for target in node.targets}
        return names

    def test_no_two_files_import_from_each_other(self):
        reads = {path.stem: {node.module.partition(".")[2] for node in imported(tree)} for path, _, tree in self.each()}
        done = set()
        while len(done) < len(reads):
            free = [name for name in reads if name not in done and not {n for n in reads[name] if n in reads} - done]
            self.assertTrue(free, "files that import from each other")
            done |= set(free)

    def test_module_level(self):
        for path, _, tree in self.each():
            for node in tree.body:
                docstring = isinstance(node, ast.Expr) and isinstance(node.value, ast.Constant)
                self.assertTrue(docstring or isinstance(node, (ast.ImportFrom, ast.FunctionDef, ast.ClassDef, ast.Assign)))

    def test_statements(self):
        for path, _, tree in self.each():
            for node in ast.walk(tree):
                self.assertNotIsInstance(node, BARRED_NODES, getattr(node, "lineno", None))
                if isinstance(node, ast.Constant):
                    self.assertNotIsInstance(node.value, (float, complex))
                if isinstance(node, ast.ClassDef):
                    self.assertEqual(node.decorator_list, [])
                if isinstance(node, ast.FunctionDef) and node.name.startswith("__"):
                    self.assertIn(node.name, SPECIAL)

    def test_builtins_and_methods(self):
        barred = builtin_methods() - METHODS
        for path, _, tree in self.each():
            for node in ast.walk(tree):
                if isinstance(node, ast.Name) and hasattr(builtins, node.id):
                    self.assertIn(node.id, BUILTINS)
                    self.assertIsInstance(node.ctx, ast.Load)
                if isinstance(node, ast.arg):
                    self.assertFalse(hasattr(builtins, node.arg), node.arg)
                if isinstance(node, ast.Attribute):
                    self.assertNotIn(node.attr, barred)

    def test_any_and_all_take_lists(self):
        for path, _, tree in self.each():
            for node in ast.walk(tree):
                if isinstance(node, ast.Call) and isinstance(node.func, ast.Name) and node.func.id in ("any", "all", "sorted"):
                    self.assertNotIsInstance(node.args[0], ast.GeneratorExp, node.lineno)

    def test_strings_and_words(self):
        for path, text, tree in self.each():
            docstrings = {id(node.body[0].value) for node in ast.walk(tree)
                          if isinstance(node, (ast.Module, ast.ClassDef, ast.FunctionDef)) and isinstance(node.body[0], ast.Expr)}
            for node in ast.walk(tree):
                if isinstance(node, ast.Constant) and isinstance(node.value, str):
                    self.assertNotIn("%", node.value)
                    if id(node) not in docstrings:
                        self.assertNotRegex(node.value, r"\b(type|typing|enum|dataclass)\b")
                name = getattr(node, "id", None) or getattr(node, "arg", None) or getattr(node, "attr", None)
                if isinstance(name, str):
                    self.assertIsNone(UNUSED_WORDS.fullmatch(name), name)
                    self.assertIsNone(BARRED_NAMES.fullmatch(name), name)

    def test_imported_names_are_used_and_public(self):
        for path, _, tree in self.each():
            used = {node.id for node in ast.walk(tree) if isinstance(node, ast.Name)}
            for node in imported(tree):
                for one in node.names:
                    self.assertIn(one.name, used)
                    self.assertFalse(one.name.startswith("_"), one.name)

    def test_a_name_is_bound_once_at_module_level(self):
        for path, _, tree in self.each():
            names = [one.name for node in imported(tree) for one in node.names]
            names += [node.name for node in tree.body if isinstance(node, (ast.FunctionDef, ast.ClassDef))]
            names += [target.id for node in tree.body if isinstance(node, ast.Assign) for target in node.targets]
            self.assertEqual(sorted(names), sorted(set(names)))
            for node in ast.walk(tree):
                if isinstance(node, ast.arg):
                    self.assertNotIn(node.arg, names)
                if isinstance(node, ast.Name) and isinstance(node.ctx, ast.Store):
                    top = any(isinstance(one, ast.Assign) and node in one.targets for one in tree.body)
                    self.assertTrue(top or node.id not in names, node.id)

    def test_a_name_is_a_method_or_an_attribute(self):
        methods, attributes = set(), set()
        for path, _, tree in self.each():
            for node in ast.walk(tree):
                if isinstance(node, ast.ClassDef):
                    methods |= {one.name for one in node.body if isinstance(one, ast.FunctionDef)}
                if isinstance(node, ast.Attribute) and isinstance(node.ctx, ast.Store):
                    attributes.add(node.attr)
        self.assertEqual(methods & attributes, set())
        self.assertEqual(methods & builtin_methods(), set())
        self.assertEqual(attributes & builtin_methods(), set())

    def test_is_stands_beside_none_true_and_false(self):
        for path, _, tree in self.each():
            for node in ast.walk(tree):
                if isinstance(node, ast.Compare) and any(isinstance(op, (ast.Is, ast.IsNot)) for op in node.ops):
                    self.assertTrue(all(isinstance(one, ast.Constant) for one in node.comparators), node.lineno)

    def test_no_generators_sets_or_decorators(self):
        for path, _, tree in self.each():
            for node in ast.walk(tree):
                self.assertNotIsInstance(node, (ast.GeneratorExp, ast.Yield, ast.YieldFrom, ast.Set, ast.Lambda))
                if isinstance(node, ast.FunctionDef):
                    self.assertEqual(node.decorator_list, [])

    def test_own_errors_alone_are_caught_and_what_is_final_is_plain(self):
        own = {node.name for node in tree_of(PACKAGE / "errors.py").body if isinstance(node, ast.ClassDef)}
        for path, _, tree in self.each():
            for node in ast.walk(tree):
                if isinstance(node, ast.ExceptHandler):
                    self.assertIn(node.type.id, own)
                if isinstance(node, ast.Try):
                    for one in node.finalbody:
                        self.assertIsInstance(one, ast.Assign)
                        self.assertIsInstance(one.value, (ast.Constant, ast.Name, ast.Attribute))

    def test_what_is_iterated_at_once_is_not_kept(self):
        for path, _, tree in self.each():
            for node in ast.walk(tree):
                if isinstance(node, (ast.Assign, ast.Return)) and isinstance(node.value, ast.Call):
                    called = node.value.func
                    name = called.id if isinstance(called, ast.Name) else getattr(called, "attr", "")
                    self.assertNotIn(name, ("zip", "enumerate", "reversed", "range", "items", "keys", "values", "map", "iter"))


if __name__ == "__main__":
    unittest.main()
