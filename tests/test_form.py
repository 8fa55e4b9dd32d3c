"""The form that all files of the package keep to."""

import ast
import builtins
import unittest
from pathlib import Path

ROOT = Path(__file__).resolve().parent.parent / "panelworks"
FILES = sorted(ROOT.rglob("*.py"))
LIBRARY = {
    "heapq": {"heappush", "heappop", "heapify", "heapreplace", "heappushpop"},
    "math": {"gcd", "lcm", "isqrt", "comb", "perm", "factorial"},
    "itertools": {
        "product",
        "combinations",
        "permutations",
        "chain",
        "accumulate",
        "pairwise",
        "islice",
        "zip_longest",
    },
    "collections": {"defaultdict"},
}
BUILTINS = set(
    """len range enumerate zip min max sum abs sorted reversed int str bool list tuple dict set isinstance ord repr
any all divmod ValueError LookupError RuntimeError KeyError ZeroDivisionError NotImplemented""".split()
)
METHODS = set(
    """append clear copy count endswith extend find get index insert isalnum isalpha isdigit islower isspace isupper
items join keys ljust lower lstrip partition pop remove replace reverse rfind rjust rpartition rsplit rstrip
setdefault split splitlines startswith strip update upper values zfill bit_length""".split()
)
DUNDERS = {"__init__", "__eq__", "__len__", "__str__", "__name__", "__main__"}
WORDS = set(
    """type typing typing_extensions enum Enum IntEnum StrEnum Flag IntFlag Generic Protocol ABC ABCMeta namedtuple
NamedTuple TypedDict TYPE_CHECKING abstractmethod""".split()
)
STATEMENTS = (
    ast.Global,
    ast.AsyncFunctionDef,
    ast.GeneratorExp,
    ast.Set,
    ast.Starred,
    ast.Yield,
    ast.YieldFrom,
    ast.Div,
    ast.AnnAssign,
    ast.NamedExpr,
    ast.Await,
    ast.Delete,
    ast.Nonlocal,
    ast.With,
)


def trees():
    for file in FILES:
        yield file, ast.parse(file.read_text(encoding="ascii"))


def functions(tree):
    return [node for node in ast.walk(tree) if isinstance(node, ast.FunctionDef)]


def module_names(tree):
    found = []
    for node in tree.body:
        if isinstance(node, (ast.FunctionDef, ast.ClassDef)):
            found.append(node.name)
        elif isinstance(node, ast.ImportFrom):
            found += [one.asname or one.name for one in node.names]
        elif isinstance(node, ast.Assign):
            found += [one.id for one in node.targets]
    return found


def local_names(function):
    found = {one.arg for one in function.args.args + function.args.kwonlyargs}
    for node in ast.walk(function):
        if isinstance(node, ast.Name) and isinstance(node.ctx, ast.Store):
            found.add(node.id)
        elif isinstance(node, ast.arg):
            found.add(node.arg)
    return found


class Form(unittest.TestCase):
    def test_files(self):
        self.assertLessEqual(len(FILES), 100)
        self.assertEqual(
            {file.suffix for file in ROOT.rglob("*") if file.is_file() and "__pycache__" not in file.parts}, {".py"}
        )
        for file in FILES:
            text = file.read_text(encoding="ascii")
            self.assertTrue(all(sign == "\n" or " " <= sign <= "~" for sign in text), file)
            lines = text.split("\n")
            self.assertLess(len(lines), 401, file)
            for number, line in enumerate(lines):
                self.assertLessEqual(len(line), 120, f"{file}:{number + 1}")

    def test_functions_are_short(self):
        for file, tree in trees():
            for node in functions(tree):
                self.assertLessEqual(node.end_lineno - node.lineno + 1, 40, f"{file}: {node.name}")

    def test_imports(self):
        for file, tree in trees():
            for node in ast.walk(tree):
                if isinstance(node, ast.Import):
                    self.assertEqual((file.name, [one.name for one in node.names]), ("__main__.py", ["sys"]))
                if isinstance(node, ast.ImportFrom):
                    self.assertIn(node, tree.body, file)
                    self.one_import(file, node)

    def one_import(self, file, node):
        self.assertEqual(node.level, 0)
        if node.module in LIBRARY:
            self.assertLessEqual({one.name for one in node.names}, LIBRARY[node.module], file)
            return
        head, _, name = node.module.partition(".")
        self.assertEqual(head, "panelworks", file)
        defined = module_names(ast.parse((ROOT / f"{name}.py").read_text()))
        own = [one for one in ast.parse((ROOT / f"{name}.py").read_text()).body if isinstance(one, ast.ImportFrom)]
        taken = {one.name for other in own for one in other.names}
        for one in node.names:
            self.assertIn(one.name, defined, file)
            self.assertNotIn(one.name, taken, file)

    def test_each_import_is_used_and_each_name_bound_once(self):
        for file, tree in trees():
            names = module_names(tree)
            self.assertEqual(len(names), len(set(names)), file)
            used = {node.id for node in ast.walk(tree) if isinstance(node, ast.Name)}
            for node in tree.body:
                if isinstance(node, ast.ImportFrom):
                    for one in node.names:
                        self.assertIn(one.name, used, file)

    def test_no_two_files_import_from_each_other(self):
        needs = {}
        for file, tree in trees():
            needs[file.stem] = {
                node.module.partition(".")[2]
                for node in tree.body
                if isinstance(node, ast.ImportFrom) and node.module not in LIBRARY
            }
        done = set()
        while len(done) < len(needs):
            free = {name for name in needs if name not in done and needs[name] <= done}
            self.assertTrue(free, f"a ring among {sorted(set(needs) - done)}")
            done |= free

    def test_no_local_name_hides_another_one(self):
        for file, tree in trees():
            taken = {node.name for node in tree.body if isinstance(node, ast.ClassDef)} | set(dir(builtins))
            for node in tree.body:
                if isinstance(node, ast.ImportFrom):
                    taken |= {one.name for one in node.names}
            for node in functions(tree):
                self.assertEqual(local_names(node) & taken, set(), f"{file}: {node.name}")
            self.assertEqual(set(module_names(tree)) & set(dir(builtins)), set(), file)

    def test_statements_and_expressions(self):
        for file, tree in trees():
            for node in ast.walk(tree):
                where = f"{file}:{getattr(node, 'lineno', 0)}"
                self.assertNotIsInstance(node, STATEMENTS, where)
                if isinstance(node, ast.Compare):
                    for sign, other in zip(node.ops, node.comparators):
                        if isinstance(sign, (ast.Is, ast.IsNot)):
                            self.assertIsInstance(other, ast.Constant, where)
                if isinstance(node, ast.Constant):
                    self.one_constant(node.value, where)
                if isinstance(node, ast.FunctionDef):
                    self.assertEqual(node.decorator_list, [], where)

    def one_constant(self, value, where):
        self.assertIn(type(value), (int, str, bool, type(None)), where)
        if isinstance(value, str):
            self.assertNotIn("%", value, where)
            self.assertFalse(value.endswith(("._", ".__")), where)

    def test_names_and_calls(self):
        own = set()
        for _, tree in trees():
            own |= {node.name for node in functions(tree)}
        for file, tree in trees():
            known = set(module_names(tree)) | BUILTINS
            for node in ast.walk(tree):
                where = f"{file}:{getattr(node, 'lineno', 0)}"
                if isinstance(node, ast.Call) and isinstance(node.func, ast.Attribute):
                    self.assertIn(node.func.attr, METHODS | own, where)
                if isinstance(node, ast.Call) and isinstance(node.func, ast.Name) and node.func.id in dir(builtins):
                    self.assertIn(node.func.id, BUILTINS, where)
                if isinstance(node, ast.Name) and node.id in dir(builtins):
                    self.assertIn(node.id, known, where)
                if isinstance(node, ast.FunctionDef) and node.name.startswith("__"):
                    self.assertIn(node.name, DUNDERS, where)

    def test_words_that_are_barred(self):
        for file, tree in trees():
            for node in ast.walk(tree):
                for name in (getattr(node, field, None) for field in ("id", "attr", "arg", "name")):
                    self.assertNotIn(name, WORDS | {"mro", "law", "register", "elements", "open", "input"}, file)

    def test_module_level(self):
        for file, tree in trees():
            for node in tree.body:
                plain = isinstance(node, (ast.FunctionDef, ast.ClassDef, ast.ImportFrom, ast.Assign))
                self.assertTrue(plain or isinstance(node, ast.Expr) and isinstance(node.value, ast.Constant), file)

    def test_handlers_catch_own_errors(self):
        import panelworks.errors as errors

        for file, tree in trees():
            for node in ast.walk(tree):
                if isinstance(node, ast.ExceptHandler):
                    caught = node.type.elts if isinstance(node.type, ast.Tuple) else [node.type]
                    for one in caught:
                        self.assertTrue(hasattr(errors, one.id), file)


if __name__ == "__main__":
    unittest.main()
