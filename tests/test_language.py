"""The files of the package beside those rules of the language document that are plain to look up."""

import ast
import builtins
import pathlib
import re
import unittest

PACKAGE = pathlib.Path(__file__).resolve().parent.parent / "bothroads"
LIBRARY = {"heapq", "math", "itertools", "collections"}
BUILTINS = set(
    "len range enumerate zip min max sum abs sorted reversed int str bool list tuple dict set frozenset isinstance "
    "ord repr any all divmod ValueError LookupError KeyError IndexError".split()
)
# No name of a file's own may be one of these (L15, L17), and no word of its code (L17).
BARRED_NAMES = BUILTINS | set(
    "register mro elements open input law version_info with_traceback add_note attrgetter breakpoint builtins "
    "compile copyright credits delattr dir eval exec exit gc globals help id importlib license locals methodcaller "
    "os quit setattr super sys type vars hash iter next map round filter format pow print property object".split()
)
BARRED_WORDS = re.compile(
    r"\b(typing|typing_extensions|enum|Enum|Generic|Protocol|ABC|namedtuple|NamedTuple|TypedDict|_wall|_WallAttr)\b"
)
METHODS = set(
    "append clear copy count endswith extend find get index insert isalnum isalpha isdigit islower isspace isupper "
    "items join keys ljust lower lstrip partition pop remove replace reverse rfind rjust rpartition rsplit rstrip setdefault "
    "split splitlines startswith strip update upper values zfill bit_length".split()
)
# Some of these may stand under rules of their own: the package does without.
BARRED_FORMS = (
    ast.Global,
    ast.Nonlocal,
    ast.With,
    ast.Match,
    ast.Delete,
    ast.Assert,
    ast.NamedExpr,
    ast.Yield,
    ast.GeneratorExp,
    ast.AnnAssign,
    ast.Starred,
)
BARRED_NODES = (ast.AsyncFunctionDef, ast.Await, ast.Import, ast.ImportFrom, ast.Div)


def sources():
    return [(path.name, path.read_text(encoding="ascii")) for path in sorted(PACKAGE.rglob("*.py"))]


def bound_names(tree):
    for node in ast.walk(tree):
        if isinstance(node, (ast.FunctionDef, ast.ClassDef)):
            yield node.name
        elif isinstance(node, ast.arg):
            yield node.arg
        elif isinstance(node, ast.Name) and not isinstance(node.ctx, ast.Load):
            yield node.id


class LanguageTest(unittest.TestCase):
    def test_sizes_and_characters(self):
        for name, text in sources():
            self.assertIsNone(re.search(r"[^ -~\n]", text), name)
            lines = text.splitlines()
            self.assertLessEqual(len(lines), 399, name)
            self.assertLessEqual(max([len(line) for line in lines], default=0), 120, name)
            for node in ast.walk(ast.parse(text)):
                if isinstance(node, ast.FunctionDef):
                    self.assertLessEqual(node.end_lineno - node.lineno + 1, 40, (name, node.name))

    def test_the_folder_holds_python_files_alone(self):
        for path in PACKAGE.rglob("*"):
            if "__pycache__" not in path.parts:
                self.assertTrue(path.is_dir() or re.fullmatch(r"[a-z0-9_]+\.py", path.name), path)

    def test_imports_are_of_the_package_and_go_round_nowhere(self):
        reaches = {}
        for name, text in sources():
            tree = ast.parse(text)
            found = set()
            for node in tree.body:
                if isinstance(node, ast.ImportFrom):
                    self.assertEqual(node.level, 0, name)
                    if node.module not in LIBRARY:
                        top, _, file = node.module.partition(".")
                        self.assertEqual(top, "bothroads", name)
                        found.add(file + ".py")
            reaches[name] = found
        for _ in reaches:
            reaches = {name: found.union(*[reaches[own] for own in found]) for name, found in reaches.items()}
        for name, found in reaches.items():
            self.assertNotIn(name, found)

    def test_imports_stand_at_the_top_and_by_name(self):
        for name, text in sources():
            tree = ast.parse(text)
            at_top = {id(node) for node in tree.body if isinstance(node, ast.ImportFrom)}
            for node in ast.walk(tree):
                if isinstance(node, BARRED_NODES):
                    self.assertIn(id(node), at_top, (name, ast.dump(node)))
                    self.assertTrue(all([own.asname is None and own.name != "*" for own in node.names]), name)

    def test_names(self):
        for name, text in sources():
            tree = ast.parse(text)
            for own in bound_names(tree):
                self.assertNotIn(own, BARRED_NAMES, name)
                self.assertTrue(own == "__init__" or not own.startswith("__"), (name, own))
            imported = {own.name for node in tree.body if isinstance(node, ast.ImportFrom) for own in node.names}
            self.assertFalse(imported & set(bound_names(tree)), name)
            self.assertIsNone(BARRED_WORDS.search(text), name)

    def test_methods_builtins_and_sets(self):
        trees = [(name, ast.parse(text)) for name, text in sources()]
        classes = [node for _, tree in trees for node in ast.walk(tree) if isinstance(node, ast.ClassDef)]
        own = {node.name for told in classes for node in told.body if isinstance(node, ast.FunctionDef)}
        for name, tree in trees:
            held = []
            for node in ast.walk(tree):
                if isinstance(node, ast.Call) and isinstance(node.func, ast.Attribute):
                    self.assertIn(node.func.attr, METHODS | own, (name, node.lineno))
                # A doctest that has run leaves a builtin called _ behind.
                if isinstance(node, ast.Name) and hasattr(builtins, node.id) and node.id != "_":
                    self.assertIn(node.id, BUILTINS, (name, node.lineno))
                if isinstance(node, ast.Call) and isinstance(node.func, ast.Name) and node.func.id in ("sorted", "len"):
                    held.extend([id(told) for told in node.args])
            for node in ast.walk(tree):
                called = isinstance(node, ast.Call) and isinstance(node.func, ast.Name) and node.func.id == "set"
                if called or isinstance(node, (ast.Set, ast.SetComp)):
                    self.assertIn(id(node), held, (name, node.lineno))
                self.assertNotIsInstance(node, BARRED_FORMS, name)
                if isinstance(node, ast.Constant) and isinstance(node.value, str):
                    self.assertNotIn("%", node.value, name)

    def test_module_level_is_plain(self):
        for name, text in sources():
            for at, node in enumerate(ast.parse(text).body):
                if at == 0 and isinstance(node, ast.Expr):
                    self.assertIsInstance(node.value.value, str)
                else:
                    self.assertIsInstance(node, (ast.ImportFrom, ast.FunctionDef, ast.ClassDef, ast.Assign), name)


if __name__ == "__main__":
    unittest.main()
