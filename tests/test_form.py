"""The package keeps to ../shared/LANGUAGE.md, as far as a look at its files can tell."""

import ast
import pathlib
import re
import unittest

PACKAGE = pathlib.Path(__file__).resolve().parent.parent / "talkcourt"
FILES = sorted(PACKAGE.glob("*"))

OWN_NAMES = set(
    "len range enumerate zip min max sum abs sorted reversed int str bool bytes list tuple dict set isinstance ord repr any all"
    " divmod ValueError KeyError IndexError LookupError ZeroDivisionError StopIteration".split()
)
BANNED_NODES = (
    ast.With, ast.Match, ast.Global, ast.Nonlocal, ast.Yield, ast.YieldFrom, ast.GeneratorExp, ast.NamedExpr, ast.Import,
    ast.AsyncFunctionDef, ast.Await, ast.AsyncFor, ast.AsyncWith, ast.Div, ast.MatMult,
)
BANNED_NAMES = set(
    "register mro elements open input version_info with_traceback add_note attrgetter breakpoint builtins compile copyright"
    " credits delattr dir eval exec exit gc getattr globals hasattr help id importlib license locals methodcaller os quit"
    " setattr super type vars sys format format_map chr frozenset print object".split()
)
BANNED_WORDS = (
    r"\b(type|typing|typing_extensions|enum|Enum|IntEnum|StrEnum|Flag|IntFlag|Generic|Protocol|ABC|ABCMeta|namedtuple"
    r"|NamedTuple|TypedDict|TYPE_CHECKING|abstractmethod)\b|dataclass|overload|contextmanager"
)
METHODS = set(
    "append clear copy count endswith extend find get index insert isalnum isalpha isdigit islower isspace isupper items join"
    " keys ljust lower lstrip partition pop remove replace reverse rfind rjust rpartition rsplit rstrip setdefault split"
    " splitlines startswith strip update upper values zfill bit_length add discard sort".split()
)


def trees():
    return [(path.name, ast.parse(path.read_text())) for path in FILES if path.suffix == ".py"]


def bound_names(tree):
    """Every name that a file binds, wherever it does."""
    found = set()
    for node in ast.walk(tree):
        if isinstance(node, (ast.FunctionDef, ast.ClassDef)):
            found.add(node.name)
        elif isinstance(node, ast.arg):
            found.add(node.arg)
        elif isinstance(node, ast.Name) and not isinstance(node.ctx, ast.Load):
            found.add(node.id)
        elif isinstance(node, ast.alias):
            found.add(node.asname or node.name)
        elif isinstance(node, ast.ExceptHandler) and node.name:
            found.add(node.name)
    return found


def top_names(tree):
    """The names that a file binds at its top, each as often as it does."""
    found = []
    for node in tree.body:
        if isinstance(node, (ast.FunctionDef, ast.ClassDef)):
            found.append(node.name)
        elif isinstance(node, ast.ImportFrom):
            found.extend(alias.asname or alias.name for alias in node.names)
        elif isinstance(node, ast.Assign):
            found.extend(target.id for target in node.targets)
    return found


def drawn_names(tree):
    """The names that a file draws from others."""
    return {alias.name for node in tree.body if isinstance(node, ast.ImportFrom) for alias in node.names}


def drawn_from():
    """Of each file the files that it draws from."""
    return {
        name: {node.module.split(".")[1] + ".py" for node in ast.walk(tree) if isinstance(node, ast.ImportFrom)}
        for name, tree in trees()
    }


class Form(unittest.TestCase):
    def test_nothing_else_lies_in_the_package(self):
        names = [path.name for path in FILES if path.name != "__pycache__"]
        self.assertIn("__init__.py", names)
        for name in names:
            self.assertRegex(name, r"\A[a-z0-9_]+\.py\Z")

    def test_signs_and_sizes(self):
        for path in FILES:
            if path.suffix != ".py":
                continue
            text = path.read_bytes().decode("ascii")
            self.assertTrue(all(sign == "\n" or " " <= sign <= "~" for sign in text), path.name)
            self.assertLessEqual(len(text.splitlines()), 400, path.name)
            self.assertLessEqual(max(len(row) for row in text.splitlines()), 120, path.name)
            self.assertIsNone(re.search(BANNED_WORDS, text), path.name)

    def test_defs_are_short_and_plain(self):
        for name, tree in trees():
            for node in ast.walk(tree):
                if isinstance(node, ast.FunctionDef):
                    self.assertLessEqual(node.end_lineno - node.lineno + 1, 40, (name, node.name))
                    self.assertEqual((node.decorator_list, node.args.vararg, node.args.kwarg), ([], None, None), name)
                    self.assertEqual(node.args.posonlyargs, [], name)

    def test_only_plain_rows(self):
        for name, tree in trees():
            for node in ast.walk(tree):
                self.assertNotIsInstance(node, BANNED_NODES, (name, getattr(node, "lineno", 0)))
                if isinstance(node, ast.ImportFrom):
                    self.assertEqual(node.level, 0, name)
                    self.assertTrue(node.module.startswith("talkcourt."), (name, node.module))
                if isinstance(node, (ast.For, ast.While)):
                    self.assertEqual(node.orelse, [], name)
                if isinstance(node, ast.Constant):
                    self.assertIsInstance(node.value, (int, str, bytes, type(None)), name)
                    self.assertFalse(isinstance(node.value, str) and "%" in node.value, name)

    def test_names(self):
        for name, tree in trees():
            bound = bound_names(tree)
            self.assertFalse(bound & (BANNED_NAMES | OWN_NAMES), (name, bound & (BANNED_NAMES | OWN_NAMES)))
            for word in bound - {"__init__"}:
                self.assertFalse(word.startswith("_"), (name, word))
            for node in ast.walk(tree):
                if isinstance(node, ast.Name) and isinstance(node.ctx, ast.Load):
                    self.assertIn(node.id, bound | OWN_NAMES, name)

    def test_each_name_once(self):
        for name, tree in trees():
            top = top_names(tree)
            self.assertEqual(len(top), len(set(top)), name)
            drawn = drawn_names(tree) | {node.name for node in tree.body if isinstance(node, ast.ClassDef)}
            for made in ast.walk(tree):
                if isinstance(made, (ast.FunctionDef, ast.Lambda)):
                    local = {node.arg for node in ast.walk(made.args) if isinstance(node, ast.arg)}
                    local |= {node.id for node in ast.walk(made) if isinstance(node, ast.Name) and isinstance(node.ctx, ast.Store)}
                    self.assertFalse(local & drawn, (name, local & drawn))

    def test_drawn_names_are_used_and_defined_there(self):
        # Without the import rows: a name is drawn from the very file that defines it.
        tops = {name: set(top_names(tree)) - drawn_names(tree) for name, tree in trees()}
        for name, tree in trees():
            used = {node.id for node in ast.walk(tree) if isinstance(node, ast.Name)}
            for node in tree.body:
                if isinstance(node, ast.ImportFrom):
                    for alias in node.names:
                        self.assertIn(alias.name, used, name)
                        self.assertIn(alias.name, tops[node.module.split(".")[1] + ".py"], name)

    def test_no_two_files_draw_from_one_another(self):
        drawn = drawn_from()
        while drawn:
            free = [name for name in drawn if not drawn[name] & set(drawn)]
            self.assertTrue(free, drawn)
            for name in free:
                del drawn[name]

    def test_methods_and_values(self):
        given = {
            node.attr
            for _, tree in trees()
            for node in ast.walk(tree)
            if isinstance(node, ast.Attribute) and isinstance(node.ctx, ast.Store)
        }
        own_methods = {
            node.name
            for _, tree in trees()
            for made in ast.walk(tree)
            if isinstance(made, ast.ClassDef)
            for node in made.body
            if isinstance(node, ast.FunctionDef)
        }
        self.assertFalse(given & own_methods)
        for name, tree in trees():
            for node in ast.walk(tree):
                if isinstance(node, ast.Attribute):
                    self.assertIn(node.attr, given | own_methods | METHODS, name)


if __name__ == "__main__":
    unittest.main()
