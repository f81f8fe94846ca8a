"""What the package keeps to of the language rules; it uses still less than they allow."""

import ast
import builtins
import pathlib
import unittest

ROOT = pathlib.Path(__file__).resolve().parent.parent / "movemarks"
FILES = sorted(ROOT.rglob("*.py"))

BUILTINS = set("len range enumerate zip min max sum abs sorted reversed int str bool list tuple dict set isinstance repr "
               "any all divmod iter property classmethod NotImplemented ValueError TypeError KeyError IndexError "
               "LookupError ArithmeticError OverflowError".split())
METHODS = set("append clear copy count endswith extend find get index insert isdigit items join keys lower pop remove "
              "replace reverse setdefault split startswith strip update upper values add bit_length".split())
NODES = set("""Module Expr Constant ImportFrom alias FunctionDef arguments arg ClassDef Name Load Store Attribute Call Return
    keyword Assign AugAssign If For While Break Continue Pass Raise Yield Compare BoolOp And Or UnaryOp USub Not BinOp Add Sub Mult
    FloorDiv Mod Pow BitAnd BitOr BitXor LShift RShift Eq NotEq Lt LtE Gt GtE Is IsNot In NotIn Subscript Slice Tuple List
    Dict ListComp DictComp comprehension IfExp Lambda JoinedStr FormattedValue""".split())
BARRED = set("""register mro elements open input law version_info with_traceback add_note type typing enum Enum Flag Generic
    Protocol ABC namedtuple id dir vars eval exec exit help gc getattr setattr hasattr globals locals os super compile""".split())
LIBRARY = {"math": {"gcd", "lcm", "isqrt", "comb", "perm", "factorial"}}
DUNDERS = set("__init__ __eq__ __repr__ __str__ __len__ __iter__ __contains__ __add__ __mul__".split())


def module_of(path):
    parts = path.relative_to(ROOT.parent).with_suffix("").parts
    return ".".join(parts[:-1] if parts[-1] == "__init__" else parts)


def defined(tree):
    """The names that a file binds at module level, with repeats."""
    found = []
    for row in tree.body:
        if isinstance(row, (ast.FunctionDef, ast.ClassDef)):
            found.append(row.name)
        elif isinstance(row, ast.Assign):
            found.extend(target.id for target in row.targets)
        elif isinstance(row, ast.ImportFrom):
            found.extend(name.name for name in row.names)
    return found


def stored(tree):
    """The names of parameters and local variables."""
    for node in ast.walk(tree):
        if isinstance(node, ast.arg):
            yield node.arg
        elif isinstance(node, ast.Name) and isinstance(node.ctx, ast.Store):
            yield node.id


class Language(unittest.TestCase):

    def setUp(self):
        self.texts = {path: path.read_text(encoding="utf-8") for path in FILES}
        self.trees = {path: ast.parse(text) for path, text in self.texts.items()}
        self.names = {module_of(path): defined(tree) for path, tree in self.trees.items()}

    def each_node(self):
        for path, tree in self.trees.items():
            for node in ast.walk(tree):
                yield f"{path.name}:{getattr(node, 'lineno', 0)}", node

    def test_files(self):
        self.assertLessEqual(len(FILES), 100)
        for path in ROOT.rglob("*"):
            if "__pycache__" not in path.parts:
                self.assertTrue(path.suffix == ".py" or (path / "__init__.py").exists(), path)
        for path, text in self.texts.items():
            self.assertTrue(all(" " <= sign <= "~" or sign == "\n" for sign in text), path)
            self.assertLessEqual(len(text.splitlines()), 399, path)
            self.assertLessEqual(max(map(len, text.splitlines())), 120, path)

    def test_functions_are_short(self):
        for place, node in self.each_node():
            if isinstance(node, ast.FunctionDef):
                self.assertLessEqual(node.end_lineno - node.lineno + 1, 40, place)

    def test_statements_and_values(self):
        for place, node in self.each_node():
            self.assertIn(node.__class__.__name__, NODES, place)
            if isinstance(node, ast.BinOp) and isinstance(node.op, ast.Pow):
                self.assertIsInstance(node.right, ast.Constant, place)
            if isinstance(node, ast.Constant):
                self.assertNotIsInstance(node.value, (float, complex, bytes), place)
                if isinstance(node.value, str):
                    self.assertFalse("%" in node.value or node.value.startswith("__"), place)

    def test_module_level(self):
        for path, tree in self.trees.items():
            for row in tree.body:
                self.assertIsInstance(row, (ast.Expr, ast.ImportFrom, ast.FunctionDef, ast.ClassDef, ast.Assign), path)
            names = defined(tree)
            self.assertEqual(len(names), len(set(names)), path)

    def test_imports(self):
        led = {}
        for path, tree in self.trees.items():
            uses = {node.id for node in ast.walk(tree) if isinstance(node, ast.Name)}
            for row in tree.body:
                if isinstance(row, ast.ImportFrom):
                    led.setdefault(module_of(path), set()).add(row.module)
                    known = LIBRARY.get(row.module) or {name for name in self.names[row.module]}
                    for name in row.names:
                        self.assertTrue(name.asname is None and name.name in known and name.name in uses, (path, name.name))
        reached = dict(led)
        for _ in led:
            reached = {one: more.union(*(led.get(other, set()) for other in more)) for one, more in reached.items()}
        for one, more in reached.items():
            self.assertNotIn(one, more)

    def test_names(self):
        for path, tree in self.trees.items():
            outer = {row.name for row in tree.body if isinstance(row, ast.ClassDef)}
            outer.update(name.name for row in tree.body if isinstance(row, ast.ImportFrom) for name in row.names)
            local = set(stored(tree))
            self.assertFalse(local & outer, path)
            for name in local | set(defined(tree)) - outer:
                self.assertFalse(hasattr(builtins, name) or name in BARRED, (path, name))
            bound = local | set(defined(tree))
            for node in ast.walk(tree):
                if isinstance(node, ast.Name) and node.id not in bound:
                    self.assertIn(node.id, BUILTINS, path)
                if isinstance(node, ast.FunctionDef) and node.name.startswith("__"):
                    self.assertIn(node.name, DUNDERS, path)

    def test_methods(self):
        own = {node.name for _, node in self.each_node() if isinstance(node, ast.FunctionDef)}
        for place, node in self.each_node():
            if isinstance(node, ast.Call) and isinstance(node.func, ast.Attribute):
                self.assertIn(node.func.attr, METHODS | own | {"__init__"}, place)
            if isinstance(node, ast.Call) and node.keywords:
                self.assertEqual((node.func.id, [word.arg for word in node.keywords]), ("sorted", ["key"]), place)
            if isinstance(node, ast.Attribute):
                self.assertNotIn(node.attr, BARRED, place)

    def test_sets_stand_where_they_may(self):
        for path, tree in self.trees.items():
            above = {child: node for node in ast.walk(tree) for child in ast.iter_child_nodes(node)}
            for node in ast.walk(tree):
                if isinstance(node, ast.Call) and isinstance(node.func, ast.Name) and node.func.id == "set":
                    over = above[node]
                    while isinstance(over, ast.BinOp):
                        over = above[over]
                    called = isinstance(over, ast.Call) and over.func.id in ("len", "sorted")
                    self.assertTrue(called or isinstance(over, ast.Assign), (path, node.lineno))

    def test_ranges_are_gone_over_on_the_spot(self):
        for path, tree in self.trees.items():
            above = {child: node for node in ast.walk(tree) for child in ast.iter_child_nodes(node)}
            for node in ast.walk(tree):
                if isinstance(node, ast.Call) and isinstance(node.func, ast.Name) and node.func.id in ("range", "zip", "enumerate", "reversed"):
                    over = above[node]
                    looped = isinstance(over, (ast.For, ast.comprehension)) and over.iter is node
                    self.assertTrue(looped or isinstance(over, ast.Call) and over.func.id in ("list", "tuple", "enumerate"), (path, node.lineno))

    def test_stored_sets(self):
        for path, tree in self.trees.items():
            above = {child: node for node in ast.walk(tree) for child in ast.iter_child_nodes(node)}
            for function in ast.walk(tree):
                if isinstance(function, ast.FunctionDef):
                    kept = {node.targets[0].id for node in ast.walk(function) if isinstance(node, ast.Assign)
                            and isinstance(node.value, ast.Call) and ast.unparse(node.value.func) == "set"}
                    for node in ast.walk(function):
                        if isinstance(node, ast.Name) and node.id in kept and isinstance(node.ctx, ast.Load):
                            over = above[node]
                            added = isinstance(over, ast.Attribute) and over.attr == "add" and isinstance(above[above[over]], ast.Expr)
                            self.assertTrue(added or isinstance(over, ast.Compare), (path, node.lineno))

    def test_loops_leave_what_they_go_over(self):
        for place, node in self.each_node():
            if isinstance(node, ast.For) and isinstance(node.iter, ast.Name):
                for inner in ast.walk(node):
                    if isinstance(inner, ast.Call) and isinstance(inner.func, ast.Attribute):
                        self.assertNotEqual(ast.dump(inner.func.value), ast.dump(node.iter), place)
                    if isinstance(inner, ast.Subscript) and isinstance(inner.ctx, ast.Store):
                        self.assertNotEqual(ast.dump(inner.value), ast.dump(node.iter), place)


MODIFYING = set("append clear extend insert pop remove reverse setdefault update".split())
NEVER = {"sort", "add", "discard"}
CREATED = (ast.List, ast.Dict, ast.ListComp)


def created_by(function):
    """The names that a function assigns nothing but lists and dicts that it creates there itself."""
    found, others = set(), set(stored_but_assigned(function))
    for node in ast.walk(function):
        if isinstance(node, ast.Assign):
            for target in node.targets:
                if isinstance(target, ast.Name):
                    made = isinstance(node.value, CREATED) or (
                        isinstance(node.value, ast.Call) and isinstance(node.value.func, ast.Name)
                        and node.value.func.id in ("list", "dict", "sorted"))
                    (found if made else others).add(target.id)
    return found - others


def stored_but_assigned(function):
    """The names that a function stores otherwise than alone by an assignment: parameters, targets of loops, pairs."""
    alone = {id(target) for node in ast.walk(function) if isinstance(node, ast.Assign) for target in node.targets}
    for node in ast.walk(function):
        if isinstance(node, ast.arg):
            yield node.arg
        elif isinstance(node, ast.Name) and isinstance(node.ctx, ast.Store) and id(node) not in alone:
            yield node.id


def changes_of(function):
    """The rows of a function that rule L5 does not allow in what an operator runs, each with a word on it."""
    own, local = created_by(function), set(stored(function))
    for node in ast.walk(function):
        if isinstance(node, ast.AugAssign):
            if not isinstance(node.target, ast.Name):
                yield node.lineno, "+= and the like at an item or an attribute"
            elif isinstance(node.op, ast.Add) and not (isinstance(node.value, ast.Constant)
                                                       and node.value.value.__class__ is int):
                yield node.lineno, "+= of what is no literal integer"
            elif not isinstance(node.op, (ast.Add, ast.Sub, ast.FloorDiv)):
                yield node.lineno, "another sign with ="
        elif isinstance(node, ast.Subscript) and isinstance(node.ctx, (ast.Store, ast.Del)):
            if not isinstance(node.value, ast.Name) or node.value.id not in own:
                yield node.lineno, "an item of what the function did not create"
        elif isinstance(node, ast.Attribute) and isinstance(node.ctx, (ast.Store, ast.Del)):
            if function.name != "__init__" or not isinstance(node.value, ast.Name) or node.value.id != "self":
                yield node.lineno, "an attribute"
        elif isinstance(node, (ast.Yield, ast.YieldFrom)):
            yield node.lineno, "a generator"
        elif isinstance(node, ast.Call) and isinstance(node.func, ast.Attribute):
            held = node.func.value
            if node.func.attr in NEVER:
                yield node.lineno, "sort, add or discard"
            if node.func.attr in MODIFYING and not (isinstance(held, ast.Name) and held.id in own):
                yield node.lineno, "a method that modifies what the function did not create"
        elif isinstance(node, ast.Call) and not isinstance(node.func, ast.Name):
            yield node.lineno, "a call of what is held"
        elif isinstance(node, ast.Call) and node.func.id in local and node.func.id != "cls":
            yield node.lineno, "a call of what is passed"


class Operators(unittest.TestCase):
    """L5: what an operator, a property, `__eq__`, `__len__` or `__str__` runs changes nothing that it did not create."""

    def setUp(self):
        self.known = {}
        self.methods = {}
        self.properties = {}
        roots = []
        for path in FILES:
            tree = ast.parse(path.read_text(encoding="utf-8"))
            module = module_of(path)
            for row in tree.body:
                if isinstance(row, ast.ImportFrom):
                    self.known.update({(module, name.name): (row.module, name.name) for name in row.names})
                elif isinstance(row, ast.FunctionDef):
                    self.known[module, row.name] = (module, row)
                elif isinstance(row, ast.ClassDef):
                    roots.extend(self.read_class(module, row))
        self.reached = self.all_from(roots)

    def read_class(self, module, row):
        """Keeps the methods of a class; returns those with which the rule begins."""
        for method in row.body:
            if isinstance(method, ast.FunctionDef):
                marks = [mark.id for mark in method.decorator_list if isinstance(mark, ast.Name)]
                kept = self.properties if "property" in marks else self.methods
                kept.setdefault(method.name, []).append((module, method))
                if method.name == "__init__":
                    self.known[module, row.name] = (module, method)
                elif "property" in marks or method.name.startswith("__"):
                    yield module, method

    def called(self, module, function):
        """All functions and methods of the package that a function can run, told by their names."""
        for node in ast.walk(function):
            if isinstance(node, ast.Attribute):
                yield from self.properties.get(node.attr, [])
            if isinstance(node, ast.Call) and isinstance(node.func, ast.Attribute):
                yield from [one for one in self.methods.get(node.func.attr, []) if node.func.attr != "__init__"]
            if isinstance(node, ast.Name) and isinstance(node.ctx, ast.Load):
                target = self.known.get((module, node.id))
                while target is not None and isinstance(target[1], str):
                    target = self.known.get(target)
                yield from [target] if target else []

    def all_from(self, roots):
        waiting, seen = list(roots), {}
        while waiting:
            module, function = waiting.pop()
            if (module, function.lineno) not in seen:
                seen[module, function.lineno] = (module, function)
                waiting.extend(self.called(module, function))
        return list(seen.values())

    def test_nothing_is_changed(self):
        for module, function in self.reached:
            self.assertEqual(list(changes_of(function)), [], (module, function.name))

    def test_what_is_reached(self):
        names = {function.name for _, function in self.reached}
        self.assertLessEqual({"__add__", "__mul__", "__eq__", "__len__", "__str__", "__contains__", "is_commutative", "kinds",
                              "__init__", "_kinds_of", "_leads_of", "followed", "is_arrangement", "need_between", "marks", "version",
                              "row_of_kinds", "mark_table", "keeper_indices", "many_above", "_is_promise", "_spaced"}, names)

    def test_what_is_found(self):
        wrong = ("kinds = [0]\n kinds[0] += 1", "total = 0\n total += xs", "xs[0] = 1", "xs.append(1)", "ys = [1]\n ys.sort()",
                 "ys = {a: 1 for a in xs}\n ys[1] = 2", "ys = [0]\n ys = xs\n ys[0] = 1", "xs.rows = 1", "xs()", "xs[0]()",
                 "for ys in xs:\n  ys.append(1)", "ys = set()\n ys.add(1)", "ys = xs.rows\n ys.update(xs)", "del xs[0]",
                 "total = 1\n total *= 2", "total = 0\n total += True", "yield 1", "self = xs\n self.rows = 1")
        right = ("kinds = [0]\n kinds[0] = kinds[0] + 1", "total = 0\n total += 1", "total = 9\n total //= xs", "ys = {}\n ys[1] = 2",
                 "ys = sorted(xs)\n ys.append(1)", "ys = [a for a in xs]\n ys[0] = 1", "ys = list(xs)\n ys.pop()", "len(xs)")
        for rows in wrong:
            self.assertNotEqual(list(changes_of(ast.parse(f"def told(xs):\n {rows}").body[0])), [], rows)
        for rows in right:
            self.assertEqual(list(changes_of(ast.parse(f"def told(xs):\n {rows}").body[0])), [], rows)


if __name__ == "__main__":
    unittest.main()
