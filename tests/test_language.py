"""The rules of the language that can be read off the files of the package."""

import ast
import io
import pathlib
import re
import tokenize
import unittest

PACKAGE = pathlib.Path(__file__).resolve().parent.parent / "tonguehouse"
BUILTINS = set(
    "len range enumerate zip min max sum abs sorted reversed int str bool bytes list tuple dict set frozenset "
    "isinstance ord repr any all divmod iter next super property staticmethod classmethod Exception ValueError TypeError "
    "KeyError IndexError LookupError ZeroDivisionError ArithmeticError OverflowError RuntimeError NotImplementedError "
    "AttributeError StopIteration NotImplemented".split()
)
METHODS = set(
    "append clear copy count endswith extend find get index insert isalnum isalpha isdigit islower isspace isupper items "
    "join keys ljust lower lstrip partition pop remove replace reverse rfind rjust rpartition rsplit rstrip setdefault "
    "split splitlines startswith strip update upper values zfill bit_length add discard sort __init__".split()
)
DUNDERS = set("__init__ __eq__ __repr__ __str__ __len__ __enter__ __exit__ __call__ __iter__".split())
BARRED_WORDS = re.compile(
    r"\b(type|typing|typing_extensions|enum|Enum|IntEnum|StrEnum|Flag|IntFlag|Generic|Protocol|ABC|ABCMeta|namedtuple|"
    r"NamedTuple|TypedDict|TYPE_CHECKING|abstractmethod)\b|dataclass|overload|contextmanager"
)
BARRED_NODES = (
    ast.Global, ast.AsyncFunctionDef, ast.AsyncFor, ast.AsyncWith, ast.Await, ast.Div, ast.MatMult, ast.Import,
    ast.Set, ast.GeneratorExp,
)


def files():
    return sorted(path for path in PACKAGE.rglob("*.py"))


def trees():
    return [(path, ast.parse(path.read_text("ascii"))) for path in files()]


def own_names(tree):
    names = {node.id for node in ast.walk(tree) if isinstance(node, ast.Name) and not isinstance(node.ctx, ast.Load)}
    for node in ast.walk(tree):
        if isinstance(node, (ast.FunctionDef, ast.ClassDef)):
            names.add(node.name)
        elif isinstance(node, ast.arg):
            names.add(node.arg)
        elif isinstance(node, ast.ImportFrom):
            names |= {alias.asname or alias.name for alias in node.names}
        elif isinstance(node, ast.ExceptHandler) and node.name:
            names.add(node.name)
    return names


class Language(unittest.TestCase):
    def test_the_folder_has_plain_files_only(self):
        self.assertTrue((PACKAGE / "__init__.py").is_file())
        for path in PACKAGE.rglob("*"):
            if "__pycache__" not in path.parts:
                self.assertTrue(path.is_file() and re.fullmatch(r"[a-z0-9_]+\.py", path.name), path)
                self.assertFalse(path.name.startswith("test"), path)

    def test_sizes_and_signs(self):
        for path in files():
            text = path.read_bytes().decode("ascii")
            self.assertEqual(re.findall(r"[^ -~\n]", text), [], path)
            lines = text.splitlines()
            self.assertLessEqual(len(lines), 400, path)
            self.assertEqual([line for line in lines if len(line) > 120], [], path)
            self.assertIsNone(BARRED_WORDS.search(text), path)

    def test_functions_are_short(self):
        for path, tree in trees():
            for node in ast.walk(tree):
                if isinstance(node, ast.FunctionDef):
                    self.assertLessEqual(node.end_lineno - node.lineno + 1, 40, (path, node.name))

    def test_imports_come_from_the_package_and_stand_at_the_top(self):
        for path, tree in trees():
            rest = [node for node in tree.body if not isinstance(node, ast.ImportFrom)]
            for node in ast.walk(ast.Module(rest, [])):
                self.assertNotIsInstance(node, ast.ImportFrom, path)
            for node in tree.body:
                if isinstance(node, ast.ImportFrom):
                    self.assertTrue(node.level == 0 and node.module.startswith("tonguehouse."), path)
                    self.assertNotIn("*", [alias.name for alias in node.names], path)
                    home = ast.parse((PACKAGE / (node.module.split(".")[1] + ".py")).read_text("ascii"))
                    self.assertLessEqual({alias.name for alias in node.names}, own_names(home), path)

    def test_no_barred_statements_and_values(self):
        for path, tree in trees():
            for node in ast.walk(tree):
                self.assertNotIsInstance(node, BARRED_NODES, (path, getattr(node, "lineno", None)))
                if isinstance(node, ast.Constant):
                    self.assertNotIsInstance(node.value, (float, complex), path)
                    if isinstance(node.value, str):
                        self.assertNotIn("\x25", node.value, path)
                if isinstance(node, ast.Compare) and isinstance(node.ops[0], (ast.Is, ast.IsNot)):
                    self.assertIsInstance(node.comparators[0], ast.Constant, path)
                if isinstance(node, ast.BinOp) and isinstance(node.op, ast.Pow):
                    self.assertIsInstance(node.right, ast.Constant, path)

    def test_names_are_plain(self):
        barred = set(dir(__builtins__) if not isinstance(__builtins__, dict) else __builtins__) | {"register", "elements"}
        for path, tree in trees():
            for name in own_names(tree) - DUNDERS:
                self.assertRegex(name, r"^[A-Za-z][A-Za-z0-9_]*$", path)
                self.assertNotIn(name, barred, path)

    def test_no_local_name_is_that_of_an_import_and_none_is_bound_twice(self):
        for path, tree in trees():
            imported = [alias.name for node in tree.body if isinstance(node, ast.ImportFrom) for alias in node.names]
            bound = [node.name for node in tree.body if isinstance(node, (ast.FunctionDef, ast.ClassDef))]
            bound += [target.id for node in tree.body if isinstance(node, ast.Assign) for target in node.targets]
            self.assertEqual(len(set(imported + bound)), len(imported + bound), path)
            rest = ast.Module([node for node in tree.body if not isinstance(node, ast.ImportFrom)], [])
            self.assertEqual(own_names(rest) & set(imported), set(), path)
            used = {node.id for node in ast.walk(rest) if isinstance(node, ast.Name)}
            self.assertEqual(set(imported) - used, set(), path)

    def test_no_two_files_import_from_each_other(self):
        homes = {}
        for path, tree in trees():
            homes[path.stem] = {node.module.split(".")[1] for node in tree.body if isinstance(node, ast.ImportFrom)}
        while homes:
            free = [stem for stem in homes if not homes[stem] & set(homes)]
            self.assertNotEqual(free, [], homes)
            homes = {stem: homes[stem] for stem in homes if stem not in free}

    def test_only_allowed_builtins_and_methods(self):
        own = set()
        for path, tree in trees():
            own |= own_names(tree)
        for path, tree in trees():
            names = own_names(tree)
            for node in ast.walk(tree):
                if isinstance(node, ast.Name) and node.id not in names:
                    self.assertIn(node.id, BUILTINS, (path, node.lineno))
                if isinstance(node, ast.Call) and isinstance(node.func, ast.Attribute):
                    self.assertIn(node.func.attr, METHODS | own, (path, node.lineno))

    def test_no_name_is_a_method_and_an_attribute(self):
        methods, attributes, read = set(), set(), set()
        for path, tree in trees():
            called = {id(node.func) for node in ast.walk(tree) if isinstance(node, ast.Call)}
            for node in ast.walk(tree):
                if isinstance(node, ast.ClassDef):
                    methods |= {part.name for part in node.body if isinstance(part, ast.FunctionDef)}
                if isinstance(node, ast.Attribute) and isinstance(node.ctx, ast.Store):
                    self.assertIsInstance(node.value, ast.Name, (path, node.lineno))
                    attributes.add(node.attr)
                if isinstance(node, ast.Attribute) and isinstance(node.ctx, ast.Load) and id(node) not in called:
                    read.add(node.attr)
        self.assertEqual(methods & attributes, set())
        self.assertLessEqual(read, attributes)
        self.assertEqual((methods | attributes) & set(dir(str) + dir(list) + dir(dict) + dir(int) + dir(set)) - DUNDERS, set())

    def test_a_finally_is_plain(self):
        allowed = (ast.Assign, ast.If, ast.Name, ast.Attribute, ast.Constant, ast.Tuple, ast.BinOp, ast.Add, ast.Compare,
                   ast.Is, ast.IsNot, ast.Load, ast.Store)
        for path, tree in trees():
            for node in ast.walk(tree):
                for part in node.finalbody if isinstance(node, ast.Try) else ():
                    for inner in ast.walk(part):
                        self.assertIsInstance(inner, allowed, (path, part.lineno))

    def test_strings_have_plain_escapes(self):
        for path in files():
            for token in tokenize.generate_tokens(io.StringIO(path.read_text("ascii")).readline):
                if token.type == tokenize.STRING:
                    self.assertLessEqual(set(re.findall(r"\\(.)", token.string, re.DOTALL)), set("nt\\'\""), path)


if __name__ == "__main__":
    unittest.main()
