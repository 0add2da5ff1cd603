"""What a machine can see of the rules for the files of the package.

Some checks are narrower than the rules: the package does without what they bar.
"""

import ast
import builtins
import unittest
from pathlib import Path

PACKAGE = Path(__file__).resolve().parent.parent / "fillbands"
FILES = {path.stem: path.read_bytes().decode("utf-8") for path in sorted(PACKAGE.glob("*.py"))}
TREES = {name: ast.parse(text) for name, text in FILES.items()}

BUILTINS = """len range enumerate zip min max sum abs sorted reversed int str bool bytes list tuple dict set isinstance
ord repr any all divmod super property ValueError""".split()
METHODS = """append clear copy count endswith extend find get index insert isalnum isalpha isdigit islower isspace isupper
items join keys ljust lower lstrip partition pop remove replace reverse rfind rjust rpartition rsplit rstrip setdefault
split splitlines startswith strip update upper values zfill bit_length isascii removeprefix __init__""".split()
BARRED = """register mro elements open input law version_info with_traceback add_note attrgetter breakpoint builtins compile
copyright credits delattr dir eval exec exit gc getattr globals hasattr help id importlib license locals methodcaller os
quit setattr type vars sys iter next print map frozenset chr pow""".split()
# Of the library these words may be imported; they are only called, by their bare names.
MATH = ["gcd", "lcm"]
STATEMENTS = (
    ast.Assign, ast.AugAssign, ast.If, ast.While, ast.For, ast.Return, ast.Break, ast.Continue, ast.Pass, ast.Raise,
    ast.Expr, ast.FunctionDef, ast.ClassDef, ast.ImportFrom, ast.Try,
)
# A console, doctest's too, may leave its last value in the builtins under this name.
PYTHONS_OWN = set(dir(builtins)) - {"_"}
TAKES_A_LIST = ("any", "all", "min", "max", "sum", "sorted")


def nodes(kind):
    return [(name, node) for name, tree in TREES.items() for node in ast.walk(tree) if isinstance(node, kind)]


def bound_at(tree):
    """The names that a module binds at its level, imports apart."""
    found = []
    for node in tree.body:
        if isinstance(node, (ast.FunctionDef, ast.ClassDef)):
            found.append(node.name)
        elif isinstance(node, ast.Assign):
            found.extend(target.id for target in node.targets)
    return found


class Language(unittest.TestCase):
    def test_files(self):
        self.assertIn("__init__", FILES)
        for path in PACKAGE.iterdir():
            self.assertTrue(path.suffix == ".py" or path.name == "__pycache__", path)
        for name, text in FILES.items():
            self.assertTrue(name.isascii() and name.replace("_", "").isalnum() and name == name.lower())
            self.assertTrue(all(" " <= sign <= "~" or sign == "\n" for sign in text), name)
            lines = text.splitlines()
            self.assertLessEqual(len(lines), 399, name)
            self.assertLessEqual(max(map(len, lines), default=0), 120, name)

    def test_functions_are_short(self):
        for name, node in nodes(ast.FunctionDef):
            self.assertLessEqual(node.end_lineno - node.lineno + 1, 40, (name, node.name))

    def test_statements(self):
        for name, node in nodes(ast.stmt):
            self.assertIsInstance(node, STATEMENTS, (name, node.lineno))
        for name, tree in TREES.items():
            for node in tree.body:
                if isinstance(node, ast.Expr):
                    self.assertIs(node, tree.body[0])
                    self.assertIsInstance(node.value.value, str)
                else:
                    self.assertIsInstance(node, (ast.ImportFrom, ast.Assign, ast.FunctionDef, ast.ClassDef), name)

    def test_imports_name_the_file_that_defines(self):
        imported = {}
        for name, node in nodes(ast.ImportFrom):
            if node.module == "math":
                self.assertEqual([(alias.name in MATH, alias.asname) for alias in node.names], [(True, None)] * len(node.names))
                continue
            self.assertEqual((node.level, node.module.split(".")[0]), (0, "fillbands"))
            source = node.module.split(".")[1]
            imported.setdefault(name, []).append(source)
            for alias in node.names:
                self.assertIsNone(alias.asname)
                self.assertIn(alias.name, bound_at(TREES[source]))
        done = set()
        while len(done) < len(FILES):
            ready = [name for name in FILES if name not in done and set(imported.get(name, [])) <= done]
            self.assertTrue(ready, "files import from each other")
            done.update(ready)

    def test_words_of_the_library_are_called(self):
        for name, tree in TREES.items():
            called = [id(node.func) for node in ast.walk(tree) if isinstance(node, ast.Call) and not node.keywords]
            for node in ast.walk(tree):
                if isinstance(node, ast.Name) and node.id in MATH:
                    self.assertIn(id(node), called, name)
                if isinstance(node, (ast.arg, ast.FunctionDef, ast.ClassDef)):
                    self.assertNotIn(node.arg if isinstance(node, ast.arg) else node.name, MATH, name)

    def test_names_are_bound_once_and_used(self):
        for name, tree in TREES.items():
            brought = [alias.name for node in tree.body if isinstance(node, ast.ImportFrom) for alias in node.names]
            bound = bound_at(tree) + brought
            self.assertEqual(len(bound), len(set(bound)), name)
            read = {node.id for node in ast.walk(tree) if isinstance(node, ast.Name) and isinstance(node.ctx, ast.Load)}
            self.assertEqual(set(brought) - read, set(), name)
            classes = [node.name for node in tree.body if isinstance(node, ast.ClassDef)]
            for node in ast.walk(tree):
                local = node.arg if isinstance(node, ast.arg) else None
                if isinstance(node, ast.Name) and isinstance(node.ctx, ast.Store):
                    local = node.id
                self.assertNotIn(local, brought + classes, name)
                self.assertFalse(local in PYTHONS_OWN, (name, local))

    def test_builtins_and_methods(self):
        own = {node.name for _, node in nodes(ast.FunctionDef)}
        bound = {one for tree in TREES.values() for one in bound_at(tree)} | set(MATH)
        for name, node in nodes(ast.Name):
            if node.id in PYTHONS_OWN:
                self.assertIn(node.id, BUILTINS, (name, node.lineno))
            self.assertNotIn(node.id, BARRED, (name, node.lineno))
            self.assertFalse(node.id.startswith("__"), (name, node.lineno))
        for name, node in nodes(ast.Call):
            if isinstance(node.func, ast.Attribute):
                self.assertTrue(node.func.attr in METHODS or node.func.attr in own, (name, node.func.attr))
            else:
                self.assertTrue(node.func.id in BUILTINS or node.func.id in bound, (name, node.func.id))
                if node.func.id in TAKES_A_LIST:
                    self.assertFalse(isinstance(node.args[0], ast.GeneratorExp), (name, node.lineno))

    def test_expressions(self):
        barred = (ast.Div, ast.GeneratorExp, ast.Set, ast.SetComp, ast.Lambda, ast.Yield, ast.Await, ast.NamedExpr)
        for name, node in nodes(ast.AST):
            self.assertNotIsInstance(node, barred, name)
            if isinstance(node, ast.Constant):
                self.assertIsInstance(node.value, (int, str, bool, None.__class__), (name, node.lineno))
                self.assertNotIn("%", str(node.value), (name, node.lineno))
            if isinstance(node, ast.BinOp) and isinstance(node.op, ast.Pow):
                self.assertIsInstance(node.right, ast.Constant, (name, node.lineno))
            if isinstance(node, ast.Compare) and isinstance(node.ops[0], (ast.Is, ast.IsNot)):
                self.assertIsInstance(node.comparators[0], ast.Constant, (name, node.lineno))
            if isinstance(node, ast.Raise):
                self.assertIsInstance(node.exc, ast.Call, (name, node.lineno))

    def test_only_own_errors_are_caught(self):
        own = [node.name for node in TREES["errors"].body if isinstance(node, ast.ClassDef)]
        for name, node in nodes(ast.Try):
            self.assertEqual((node.orelse, node.finalbody), ([], []), (name, node.lineno))
            for handler in node.handlers:
                kinds = handler.type.elts if isinstance(handler.type, ast.Tuple) else [handler.type]
                for kind in kinds:
                    self.assertIn(kind.id, own, (name, handler.lineno))

    def test_tables_are_only_read(self):
        """A list or dict at module level is asked by an index or by in alone."""
        for name, tree in TREES.items():
            tables = [
                node.targets[0].id
                for node in tree.body
                if isinstance(node, ast.Assign) and isinstance(node.value, (ast.Dict, ast.List))
            ]
            asked = [id(node.value) for node in ast.walk(tree) if isinstance(node, ast.Subscript)]
            for node in ast.walk(tree):
                if isinstance(node, ast.Compare) and isinstance(node.ops[0], (ast.In, ast.NotIn)):
                    asked.append(id(node.comparators[0]))
            for node in ast.walk(tree):
                if isinstance(node, ast.Name) and isinstance(node.ctx, ast.Load) and node.id in tables:
                    self.assertIn(id(node), asked, (name, node.lineno))

    def test_classes(self):
        stored = {}
        properties = set()
        for name, node in nodes(ast.ClassDef):
            methods = [item.name for item in node.body if isinstance(item, ast.FunctionDef)]
            self.assertEqual(len(methods), len(set(methods)), node.name)
            stores = [
                one.attr for one in ast.walk(node) if isinstance(one, ast.Attribute) and isinstance(one.ctx, ast.Store)
            ]
            self.assertEqual(set(stores) & set(methods), set(), node.name)
            stored.update((one, node.name) for one in stores)
            for item in node.body:
                for decorator in getattr(item, "decorator_list", []):
                    self.assertEqual(decorator.id, "property")
                    properties.add(item.name)
        self.assertEqual(properties & set(stored), set())
        for name, node in nodes(ast.FunctionDef):
            self.assertIsNone(node.returns, node.name)
            if node.name.startswith("__"):
                self.assertIn(node.name, ("__init__", "__eq__"), name)

    def test_the_interface_stands_where_it_is_listed(self):
        listed = {
            "errors": ["FillError", "InvalidZones", "Nothing", "InvalidCommand"],
            "systems": ["System"],
            "columns": ["column", "filled", "row", "first_coupled"],
            "counts": ["room", "fill", "work", "widest", "first_wide"],
            "tree": ["parent", "ancestor", "depth", "descendants", "meeting", "roots"],
            "levels": ["level", "steps", "at_level", "first_at"],
            "reaches": ["reached", "is_reached", "nth_reached", "reached_room"],
            "alike": ["first_unlike", "needless", "needless_in", "first_needless"],
            "texts": ["show_system", "read_system"],
            "live": ["LiveSystem", "RoomSystem"],
            "console": ["Console"],
        }
        for name, expected in listed.items():
            self.assertEqual(set(expected) - set(bound_at(TREES[name])), set())
        methods = {
            "System": "__init__ borders length unknowns zones __eq__ coupled couplings neighbours cut joined turned",
            "LiveSystem": "__init__ present entries __eq__ add cut turn undo log preview",
            "RoomSystem": "__init__ budget",
            "Console": "__init__ execute",
        }
        for name, expected in methods.items():
            found, = [node for _, node in nodes(ast.ClassDef) if node.name == name]
            own = {item.name for item in found.body if isinstance(item, ast.FunctionDef)}
            self.assertEqual(set(expected.split()) - own, set())


if __name__ == "__main__":
    unittest.main()
