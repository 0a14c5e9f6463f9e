"""The files of the package keep to the subset of the language that the project is written in.

This looks at what a tree of the code can tell of the main rules; it does not replace reading them.
"""

import ast
import builtins
import pathlib
import re
import unittest

ROOT = pathlib.Path(__file__).resolve().parent.parent
PACKAGE = ROOT / "ringstairs"
FILES = sorted(PACKAGE.rglob("*.py"))
CALLED_BUILTINS = {
    "len", "range", "enumerate", "zip", "min", "max", "sum", "abs", "sorted", "reversed", "int", "str", "bool", "list",
    "tuple", "dict", "isinstance", "repr", "any", "all", "divmod",
}
NAMED_BUILTINS = CALLED_BUILTINS | {
    "IndexError", "KeyError", "LookupError", "OverflowError", "ArithmeticError", "ValueError", "property",
    "NotImplemented",
}
LIBRARY = {"math": {"gcd", "lcm", "isqrt", "comb", "factorial"}, "heapq": {"heappush", "heappop"}}
BANNED_WORDS = (
    "type", "typing", "enum", "Enum", "Flag", "Generic", "Protocol", "ABC", "namedtuple", "NamedTuple", "TypedDict",
    "abstractmethod", "register", "mro", "elements", "open", "input", "law", "_wall", "_WallAttr",
)
# The name `_` is put among the builtins by what shows values.
BUILTINS = set(dir(builtins)) - {"_"}
BUILTIN_METHODS = {
    "append", "copy", "count", "extend", "get", "index", "items", "join", "keys", "pop", "split", "startswith", "values",
}
NO_NODES = (
    ast.AsyncFunctionDef, ast.Await, ast.AnnAssign, ast.Global, ast.Nonlocal, ast.With, ast.Yield,
    ast.YieldFrom, ast.GeneratorExp, ast.Set, ast.SetComp, ast.Starred, ast.Div, ast.NamedExpr, ast.Import, ast.Match,
)


def trees():
    for path in FILES:
        yield path, ast.parse(path.read_text())


class TestLanguage(unittest.TestCase):
    def test_files(self):
        listed = [path for path in PACKAGE.rglob("*") if path.is_file() and "__pycache__" not in path.parts]
        self.assertEqual(sorted(listed), FILES)
        self.assertTrue(len(FILES) <= 100)
        for path in PACKAGE.rglob("*"):
            if path.is_dir() and path.name != "__pycache__":
                self.assertTrue((path / "__init__.py").is_file())
                self.assertFalse(path.with_suffix(".py").exists())

    def test_lines(self):
        for path in FILES:
            text = path.read_text()
            self.assertTrue(set(text) <= set(map(chr, range(32, 127))) | {"\n"}, path)
            self.assertTrue(len(text.splitlines()) <= 399, path)
            for line in text.splitlines():
                self.assertTrue(len(line) <= 120, (path, line))
                self.assertEqual(line, line.rstrip())

    def test_words(self):
        for path, tree in trees():
            names = set()
            for node in ast.walk(tree):
                for field in ("id", "attr", "arg", "name"):
                    if isinstance(getattr(node, field, None), str):
                        names.add(getattr(node, field))
            for name in names:
                self.assertNotIn(name, BANNED_WORDS, path)
                self.assertTrue(re.fullmatch(r"__[a-z]+__|_?[A-Za-z][A-Za-z0-9_]*|_", name), (path, name))

    def test_nodes(self):
        for path, tree in trees():
            for node in ast.walk(tree):
                self.assertNotIsInstance(node, NO_NODES, (path, getattr(node, "lineno", None)))
                if isinstance(node, (ast.FunctionDef, ast.Lambda)):
                    self.assertFalse(node.args.vararg or node.args.kwarg or node.args.kwonlyargs)
                if isinstance(node, ast.FunctionDef):
                    self.assertTrue(node.end_lineno - node.lineno < 40, (path, node.name))
                    self.assertIsNone(node.returns)
                    for mark in node.decorator_list:
                        self.assertEqual(ast.dump(mark), ast.dump(ast.Name("property", ast.Load())))
                if isinstance(node, ast.Constant):
                    self.assertNotIsInstance(node.value, (float, complex))
                    if isinstance(node.value, str):
                        self.assertNotIn("%", node.value)
                if isinstance(node, ast.BinOp) and isinstance(node.op, ast.Pow):
                    self.assertIsInstance(node.right, ast.Constant)
                if isinstance(node, ast.Is) or isinstance(node, ast.IsNot):
                    continue
                if isinstance(node, ast.Compare):
                    for operator, right in zip(node.ops, node.comparators):
                        if isinstance(operator, (ast.Is, ast.IsNot)):
                            self.assertIsInstance(right, ast.Constant)

    def test_iterated_at_once(self):
        eaters = {"list", "tuple", "dict", "sorted", "sum", "any", "all", "enumerate", "zip", "min", "max", "len"}
        for path, tree in trees():
            ahead = {child: node for node in ast.walk(tree) for child in ast.iter_child_nodes(node)}
            for node in ast.walk(tree):
                if not isinstance(node, ast.Call) or not isinstance(node.func, ast.Name):
                    continue
                if node.func.id not in ("range", "zip", "enumerate", "reversed"):
                    continue
                above = ahead[node]
                if isinstance(above, (ast.For, ast.comprehension)):
                    right = above.iter is node
                elif isinstance(above, ast.Call) and isinstance(above.func, ast.Name):
                    allowed = eaters | ({"reversed"} if node.func.id == "range" else set())
                    right = above.func.id in allowed and above.args[0] is node
                else:
                    right = isinstance(above, ast.Assign) and node.func.id == "range"
                self.assertTrue(right, (path, node.lineno))

    def test_classes(self):
        known = {
            "__init__", "__eq__", "__str__", "__len__", "__call__", "__mul__", "__invert__", "__contains__",
        }
        for path, tree in trees():
            for node in ast.walk(tree):
                if isinstance(node, ast.ClassDef):
                    names = [row.name for row in node.body if isinstance(row, ast.FunctionDef)]
                    self.assertEqual(len(names), len(set(names)), (path, node.name))
                    self.assertTrue({name for name in names if name.startswith("__")} <= known, (path, node.name))
                # In a package with operators nothing but plain sums is kept in steps.
                if isinstance(node, ast.AugAssign):
                    self.assertIsInstance(node.op, (ast.Add, ast.Sub), (path, node.lineno))

    def test_only_own_errors_are_caught(self):
        own = self.defined(ast.parse((PACKAGE / "errors.py").read_text()))
        for path, tree in trees():
            for node in ast.walk(tree):
                if not isinstance(node, ast.Try):
                    continue
                self.assertFalse(node.finalbody or node.orelse, path)
                names = [row.name for row in node.handlers if row.name is not None]
                self.assertEqual(len(names), len(set(names)), path)
                for row in node.handlers:
                    caught = row.type.elts if isinstance(row.type, ast.Tuple) else [row.type]
                    self.assertTrue({part.id for part in caught} <= own, (path, row.lineno))

    def test_imports(self):
        for path, tree in trees():
            self.assertFalse([node for node in ast.walk(tree) if isinstance(node, ast.ImportFrom)
                              and node not in tree.body])
            for node in tree.body:
                if not isinstance(node, ast.ImportFrom):
                    continue
                self.assertEqual(node.level, 0)
                self.assertTrue(all(row.asname is None for row in node.names))
                names = {row.name for row in node.names}
                if node.module in LIBRARY:
                    self.assertTrue(names <= LIBRARY[node.module])
                    continue
                self.assertTrue(node.module.startswith("ringstairs."))
                source = ast.parse((ROOT / (node.module.replace(".", "/") + ".py")).read_text())
                self.assertTrue(names <= self.defined(source), (path, node.module, names))
                used = {part.id for part in ast.walk(tree) if isinstance(part, ast.Name)}
                self.assertTrue(names <= used, (path, names - used))

    def defined(self, tree):
        names = set()
        for node in tree.body:
            if isinstance(node, (ast.FunctionDef, ast.ClassDef)):
                names.add(node.name)
            if isinstance(node, ast.Assign):
                names.update(target.id for target in node.targets)
        return names

    def test_no_ring_of_imports(self):
        graph = {}
        for path, tree in trees():
            name = ".".join(path.relative_to(ROOT).with_suffix("").parts)
            graph[name] = {node.module for node in tree.body if isinstance(node, ast.ImportFrom)}
        done = set()
        while True:
            ready = {name for name in graph if name not in done and not (graph[name] & set(graph)) - done}
            if not ready:
                break
            done |= ready
        self.assertEqual(done, set(graph))

    def test_module_level(self):
        for path, tree in trees():
            for node in tree.body:
                if isinstance(node, ast.Expr):
                    self.assertIsInstance(node.value, ast.Constant)
                else:
                    self.assertIsInstance(node, (ast.ImportFrom, ast.FunctionDef, ast.ClassDef, ast.Assign), path)

    def test_names_are_bound_once(self):
        for path, tree in trees():
            imported = [
                row.name for node in tree.body if isinstance(node, ast.ImportFrom) for row in node.names
            ]
            classes = [node.name for node in tree.body if isinstance(node, ast.ClassDef)]
            functions = [node.name for node in tree.body if isinstance(node, ast.FunctionDef)]
            values = [node.targets[0].id for node in tree.body if isinstance(node, ast.Assign)]
            every = imported + classes + functions + values
            self.assertEqual(len(every), len(set(every)), path)
            local = set()
            for node in ast.walk(tree):
                if isinstance(node, ast.arg):
                    local.add(node.arg)
                if isinstance(node, ast.Name) and isinstance(node.ctx, ast.Store) and node.id not in values:
                    local.add(node.id)
            self.assertFalse(local & set(imported + classes), (path, local & set(imported + classes)))
            self.assertFalse((local | set(functions + values)) & BUILTINS, path)

    def test_calls(self):
        methods = set()
        for _, tree in trees():
            for node in ast.walk(tree):
                if isinstance(node, ast.ClassDef):
                    methods |= {row.name for row in node.body if isinstance(row, ast.FunctionDef)}
        for path, tree in trees():
            for node in ast.walk(tree):
                if isinstance(node, ast.Name) and node.id in BUILTINS:
                    self.assertIn(node.id, NAMED_BUILTINS, (path, node.lineno))
                if isinstance(node, ast.Call):
                    self.assertFalse([row for row in node.keywords if row.arg is None])
                    if isinstance(node.func, ast.Attribute):
                        self.assertIn(node.func.attr, methods | BUILTIN_METHODS, (path, node.lineno))


if __name__ == "__main__":
    unittest.main()
