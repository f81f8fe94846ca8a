"""What the package keeps to of the language rules; it uses still less than they allow."""

import ast
import builtins
import pathlib
import unittest

ROOT = pathlib.Path(__file__).resolve().parent.parent / "movemarks"
FILES = sorted(ROOT.rglob("*.py"))

BUILTINS = set("len range enumerate zip min max sum abs sorted reversed int str bool list tuple dict set isinstance repr "
               "any all divmod iter property classmethod NotImplemented ValueError TypeError KeyError IndexError "
               "LookupError ArithmeticError OverflowError".split())
METHODS = set("append clear copy count endswith extend find get index insert isdigit items join keys lower pop remove "
              "replace reverse setdefault split startswith strip update upper values add bit_length".split())
NODES = set("""Module Expr Constant ImportFrom alias FunctionDef arguments arg ClassDef Name Load Store Attribute Call Return
    keyword Assign AugAssign If For While Break Continue Pass Raise Yield Compare BoolOp And Or UnaryOp USub Not BinOp Add Sub Mult
    FloorDiv Mod Pow BitAnd BitOr BitXor LShift RShift Eq NotEq Lt LtE Gt GtE Is IsNot In NotIn Subscript Slice Tuple List
    Dict ListComp DictComp comprehension IfExp Lambda JoinedStr FormattedValue""".split())
BARRED = set("""register mro elements open input law version_info with_traceback add_note type typing enum Enum Flag Generic
    Protocol ABC namedtuple id dir vars eval exec exit help gc getattr setattr hasattr globals locals os super compile""".split())
LIBRARY = {"math": {"gcd", "lcm", "isqrt", "comb", "perm", "factorial"}}
DUNDERS = set("__init__ __eq__ __repr__ __str__ __len__ __iter__ __contains__ __add__ __mul__".split())


def module_of(path):
    parts = path.relative_to(ROOT.parent).with_suffix("").parts
    return ".".join(parts[:-1] if parts[-1] == "__init__" else parts)


def defined(tree):
    """The names that a file binds at module level, with repeats."""
    found = []
    for row in tree.body:
        if isinstance(row, (ast.FunctionDef, ast.ClassDef)):
            found.append(row.name)
        elif isinstance(row, ast.Assign):
            found.extend(target.id for target in row.targets)
        elif isinstance(row, ast.ImportFrom):
            found.extend(name.name for name in row.names)
    return found


def stored(tree):
    """The names of parameters and local variables."""
    for node in ast.walk(tree):
        if isinstance(node, ast.arg):
            yield node.arg
        elif isinstance(node, ast.Name) and isinstance(node.ctx, ast.Store):
            yield node.id


class Language(unittest.TestCase):

    def setUp(self):
        self.texts = {path: path.read_text(encoding="utf-8") for path in FILES}
        self.trees = {path: ast.parse(text) for path, text in self.texts.items()}
        self.names = {module_of(path): defined(tree) for path, tree in self.trees.items()}

    def each_node(self):
        for path, tree in self.trees.items():
            for node in ast.walk(tree):
                yield f"{path.name}:{getattr(node, 'lineno', 0)}", node

    def test_files(self):
        self.assertLessEqual(len(FILES), 100)
        for path in ROOT.rglob("*"):
            if "__pycache__" not in path.parts:
                self.assertTrue(path.suffix == ".py" or (path / "__init__.py").exists(), path)
        for path, text in self.texts.items():
            self.assertTrue(all(" " <= sign <= "~" or sign == "\n" for sign in text), path)
            self.assertLessEqual(len(text.splitlines()), 399, path)
            self.assertLessEqual(max(map(len, text.splitlines())), 120, path)

    def test_functions_are_short(self):
        for place, node in self.each_node():
            if isinstance(node, ast.FunctionDef):
                self.assertLessEqual(node.end_lineno - node.lineno + 1, 40, place)

    def test_statements_and_values(self):
        for place, node in self.each_node():
            self.assertIn(node.__class__.__name__, NODES, place)
            if isinstance(node, ast.BinOp) and isinstance(node.op, ast.Pow):
                self.assertIsInstance(node.right, ast.Constant, place)
            if isinstance(node, ast.Constant):
                self.assertNotIsInstance(node.value, (float, complex, bytes), place)
                if isinstance(node.value, str):
                    self.assertFalse("%" in node.value or node.value.startswith("__"), place)

    def test_module_level(self):
        for path, tree in self.trees.items():
            for row in tree.body:
                self.assertIsInstance(row, (ast.Expr, ast.ImportFrom, ast.FunctionDef, ast.ClassDef, ast.Assign), path)
            names = defined(tree)
            self.assertEqual(len(names), len(set(names)), path)

    def test_imports(self):
        led = {}
        for path, tree in self.trees.items():
            uses = {node.id for node in ast.walk(tree) if isinstance(node, ast.Name)}
            for row in tree.body:
                if isinstance(row, ast.ImportFrom):
                    led.setdefault(module_of(path), set()).add(row.module)
                    known = LIBRARY.get(row.module) or {name for name in self.names[row.module]}
                    for name in row.names:
                        self.assertTrue(name.asname is None and name.name in known and name.name in uses, (path, name.name))
        reached = dict(led)
        for _ in led:
            reached = {one: more.union(*(led.get(other, set()) for other in more)) for one, more in reached.items()}
        for one, more in reached.items():
            self.assertNotIn(one, more)

    def test_names(self):
        for path, tree in self.trees.items():
            outer = {row.name for row in tree.body if isinstance(row, ast.ClassDef)}
            outer.update(name.name for row in tree.body if isinstance(row, ast.ImportFrom) for name in row.names)
            local = set(stored(tree))
            self.assertFalse(local & outer, path)
            for name in local | set(defined(tree)) - outer:
                self.assertFalse(hasattr(builtins, name) or name in BARRED, (path, name))
            bound = local | set(defined(tree))
            for node in ast.walk(tree):
                if isinstance(node, ast.Name) and node.id not in bound:
                    self.assertIn(node.id, BUILTINS, path)
                if isinstance(node, ast.FunctionDef) and node.name.startswith("__"):
                    self.assertIn(node.name, DUNDERS, path)

    def test_methods(self):
        own = {node.name for _, node in self.each_node() if isinstance(node, ast.FunctionDef)}
        for place, node in self.each_node():
            if isinstance(node, ast.Call) and isinstance(node.func, ast.Attribute):
                self.assertIn(node.func.attr, METHODS | own | {"__init__"}, place)
            if isinstance(node, ast.Call) and node.keywords:
                self.assertEqual((node.func.id, [word.arg for word in node.keywords]), ("sorted", ["key"]), place)
            if isinstance(node, ast.Attribute):
                self.assertNotIn(node.attr, BARRED, place)

    def test_sets_stand_where_they_may(self):
        for path, tree in self.trees.items():
            above = {child: node for node in ast.walk(tree) for child in ast.iter_child_nodes(node)}
            for node in ast.walk(tree):
                if isinstance(node, ast.Call) and isinstance(node.func, ast.Name) and node.func.id == "set":
                    over = above[node]
                    while isinstance(over, ast.BinOp):
                        over = above[over]
                    called = isinstance(over, ast.Call) and over.func.id in ("len", "sorted")
                    self.assertTrue(called or isinstance(over, ast.Assign), (path, node.lineno))

    def test_loops_leave_what_they_go_over(self):
        for place, node in self.each_node():
            if isinstance(node, ast.For) and isinstance(node.iter, ast.Name):
                for inner in ast.walk(node):
                    if isinstance(inner, ast.Call) and isinstance(inner.func, ast.Attribute):
                        self.assertNotEqual(ast.dump(inner.func.value), ast.dump(node.iter), place)
                    if isinstance(inner, ast.Subscript) and isinstance(inner.ctx, ast.Store):
                        self.assertNotEqual(ast.dump(inner.value), ast.dump(node.iter), place)


if __name__ == "__main__":
    unittest.main()
