"""The files of the package keep to the rules of the language, as far as a reader of the syntax can see."""

import ast
import builtins
import os
import re
import unittest

ROOT = os.path.dirname(os.path.dirname(os.path.abspath(__file__)))
FOLDER = os.path.join(ROOT, "maplost")

BUILTINS = set(
    "len range enumerate zip min max sum abs sorted reversed int str bool list tuple dict set isinstance ord repr "
    "any all divmod type property ValueError".split()
)
METHODS = set(
    "append clear copy count endswith extend find get index insert isalnum isalpha isdigit islower isspace isupper "
    "items join keys ljust lower lstrip partition pop remove replace reverse rfind rjust rpartition rsplit rstrip "
    "setdefault split splitlines startswith strip update upper values zfill bit_length add discard".split()
)
SPECIAL = {"__init__", "__eq__", "__len__", "__contains__"}
STATEMENTS = (
    ast.Assign, ast.AugAssign, ast.If, ast.While, ast.For, ast.Return, ast.Break, ast.Continue, ast.Pass, ast.Raise,
    ast.Assert, ast.Delete, ast.Try, ast.Expr, ast.FunctionDef, ast.ClassDef, ast.ImportFrom,
)
BARRED_WORDS = (
    "typing enum Enum Generic Protocol ABC ABCMeta namedtuple NamedTuple abstractmethod dataclass overload "
    "contextmanager _wall _WallAttr".split()
)
BARRED_NAMES = set(
    "register mro elements open input law version_info with_traceback add_note compile dir eval exec exit gc "
    "globals help id license locals os quit super vars sys".split()
)
BARRED_ATTRIBUTES = set(
    "items keys values pop update append clear extend insert remove reverse setdefault sort args encode decode hex "
    "fromhex format".split()
)


def package_files():
    return sorted(name for name in os.listdir(FOLDER) if name != "__pycache__")


def read(name):
    with open(os.path.join(FOLDER, name), encoding="ascii") as rows:
        return rows.read()


def functions(tree):
    return [node for node in ast.walk(tree) if isinstance(node, ast.FunctionDef)]


def bound_names(function):
    """The parameters and local variables of a function, those of comprehensions included."""
    names = [node.arg for node in ast.walk(function) if isinstance(node, ast.arg)]
    names += [n.id for n in ast.walk(function) if isinstance(n, ast.Name) and isinstance(n.ctx, ast.Store)]
    names += [n.name for n in ast.walk(function) if isinstance(n, ast.ExceptHandler) and n.name]
    return names


def top_names(tree):
    """The names that a file binds at module level, each time that it does."""
    names = []
    for node in tree.body:
        if isinstance(node, (ast.FunctionDef, ast.ClassDef)):
            names.append(node.name)
        elif isinstance(node, ast.ImportFrom):
            names.extend(alias.name for alias in node.names)
        elif isinstance(node, ast.Assign):
            names.extend(target.id for target in node.targets)
    return names


def defined_names(tree):
    """The names that a file defines itself, not by an import."""
    return top_names(ast.Module([node for node in tree.body if not isinstance(node, ast.ImportFrom)], []))


def is_plain(node):
    if isinstance(node, ast.Tuple):
        return all(is_plain(item) for item in node.elts)
    return isinstance(node, ast.Constant) and isinstance(node.value, (int, str))


class TestLanguage(unittest.TestCase):
    @classmethod
    def setUpClass(cls):
        cls.files = {name: read(name) for name in package_files()}
        cls.trees = {name: ast.parse(text) for name, text in cls.files.items()}

    def each(self, kind):
        for name, tree in self.trees.items():
            for node in ast.walk(tree):
                if isinstance(node, kind):
                    yield f"{name}:{getattr(node, 'lineno', 0)}", node

    def test_files_and_sizes(self):
        self.assertIn("__init__.py", self.files)
        for name, text in self.files.items():
            self.assertRegex(name, r"^[a-z0-9_]+\.py$")
            self.assertTrue(all(sign == "\n" or " " <= sign <= "~" for sign in text), name)
            lines = text.splitlines()
            self.assertLessEqual(len(lines), 399, name)
            self.assertLessEqual(max(len(line) for line in lines), 120, name)
            for function in functions(self.trees[name]):
                self.assertLessEqual(function.end_lineno - function.lineno + 1, 40, (name, function.name))
            for line in lines:
                code = line.split("#")[0] if '"' not in line else line
                for word in BARRED_WORDS:
                    self.assertIsNone(re.search(rf"\b{word}\b", code), (name, line))

    def test_imports(self):
        seen = {}
        for name, tree in self.trees.items():
            seen[name] = []
            for node in ast.walk(tree):
                self.assertNotIsInstance(node, ast.Import, name)
                if isinstance(node, ast.ImportFrom):
                    self.assertIn(node, tree.body, name)
                    self.assertEqual(node.level, 0)
                    package, file = node.module.split(".")
                    self.assertEqual(package, "maplost")
                    seen[name].append(file + ".py")
                    defined = defined_names(self.trees[file + ".py"])
                    for alias in node.names:
                        self.assertIsNone(alias.asname)
                        self.assertIn(alias.name, defined)
                        used = [n.id for n in ast.walk(tree) if isinstance(n, ast.Name)]
                        self.assertIn(alias.name, used, (name, alias.name))
        while seen:
            free = [name for name in seen if not any(other in seen for other in seen[name])]
            self.assertTrue(free, f"files import from each other: {sorted(seen)}")
            for name in free:
                del seen[name]

    def test_module_level(self):
        for name, tree in self.trees.items():
            self.assertIsNotNone(ast.get_docstring(tree), name)
            for node in tree.body[1:]:
                kinds = (ast.ImportFrom, ast.FunctionDef, ast.ClassDef, ast.Assign)
                self.assertIsInstance(node, kinds, (name, node.lineno))
                if isinstance(node, ast.Assign):
                    self.assertEqual(len(node.targets), 1)
                    self.assertTrue(is_plain(node.value), (name, node.lineno))
            names = top_names(tree)
            self.assertEqual(len(names), len(set(names)), name)

    def test_docstrings(self):
        for place, node in self.each((ast.FunctionDef, ast.ClassDef)):
            if not node.name.startswith("__"):
                self.assertIsNotNone(ast.get_docstring(node), (place, node.name))

    def test_names(self):
        for name, tree in self.trees.items():
            classes = {node.name for node in tree.body if isinstance(node, ast.ClassDef)}
            imports = {a.name for node in tree.body if isinstance(node, ast.ImportFrom) for a in node.names}
            for bound in top_names(tree):
                self.assertFalse(hasattr(builtins, bound), (name, bound))
                self.assertNotIn(bound, BARRED_NAMES)
            for function in functions(tree):
                for bound in bound_names(function):
                    where = (name, function.name, bound)
                    self.assertRegex(bound, r"^(_|_?[a-z][a-z0-9_]*)$", where)
                    self.assertNotIn(bound, classes | imports | BARRED_NAMES, where)
                    self.assertFalse(hasattr(builtins, bound), where)

    def test_builtins(self):
        for name, tree in self.trees.items():
            known = set(top_names(tree)) | BUILTINS
            for function in functions(tree):
                known |= set(bound_names(function))
            for node in ast.walk(tree):
                if isinstance(node, ast.Name):
                    self.assertIn(node.id, known, (name, node.lineno))

    def test_statements_and_expressions(self):
        for place, node in self.each(ast.stmt):
            self.assertIsInstance(node, STATEMENTS, place)
        barred = (ast.GeneratorExp, ast.Yield, ast.YieldFrom, ast.Await, ast.NamedExpr, ast.Div, ast.MatMult)
        for place, node in self.each(barred):
            self.fail(f"{place}: {type(node).__name__}")
        for place, node in self.each(ast.Constant):
            self.assertNotIsInstance(node.value, (float, complex, bytes), place)
        for place, node in self.each(ast.Expr):
            self.assertIsInstance(node.value, (ast.Call, ast.Constant), place)

    def test_strings(self):
        docs = set()
        for _, node in self.each((ast.FunctionDef, ast.ClassDef, ast.Module)):
            if ast.get_docstring(node) is not None:
                docs.add(id(node.body[0].value))
        for place, node in self.each(ast.Constant):
            if isinstance(node.value, str) and id(node) not in docs:
                self.assertNotIn("%", node.value, place)
                self.assertFalse(node.value.startswith("__") or node.value.endswith("._"), place)

    def test_classes(self):
        for place, node in self.each(ast.ClassDef):
            self.assertEqual(node.decorator_list, [])
            self.assertLessEqual(len(node.bases), 1)
            methods = [item.name for item in node.body if isinstance(item, ast.FunctionDef)]
            self.assertEqual(len(methods), len(set(methods)), place)
            for method in methods:
                self.assertTrue(not method.startswith("__") or method in SPECIAL, place)
                self.assertFalse(hasattr("", method) and method not in METHODS and method not in SPECIAL, place)
        for place, node in self.each(ast.FunctionDef):
            for mark in node.decorator_list:
                self.assertEqual(mark.id, "property", place)

    def test_attributes(self):
        methods = {node.name for _, node in self.each(ast.FunctionDef)}
        properties = {node.name for _, node in self.each(ast.FunctionDef) if node.decorator_list}
        stored = {n.attr for _, n in self.each(ast.Attribute) if isinstance(n.ctx, ast.Store)}
        self.assertEqual(stored & properties, set())
        self.assertEqual(stored & BARRED_ATTRIBUTES, set())
        called = {id(node.func) for _, node in self.each(ast.Call)}
        for place, node in self.each(ast.Attribute):
            if id(node) in called:
                self.assertIn(node.attr, METHODS | methods, place)
                self.assertNotEqual(node.attr, "sort", place)
            elif isinstance(node.ctx, ast.Load):
                self.assertIn(node.attr, stored | properties, place)

    def test_keywords_of_builtins(self):
        allowed = {"sorted": {"key", "reverse"}, "min": {"key", "default"}, "max": {"key", "default"}}
        for place, node in self.each(ast.Call):
            if isinstance(node.func, ast.Name) and node.func.id in BUILTINS:
                for keyword in node.keywords:
                    self.assertIn(keyword.arg, allowed.get(node.func.id, ()), place)
            elif isinstance(node.func, ast.Attribute) and node.func.attr in METHODS:
                self.assertEqual(node.keywords, [], place)

    def test_comparisons_by_is(self):
        for place, node in self.each(ast.Compare):
            for sign, right in zip(node.ops, node.comparators):
                if isinstance(sign, (ast.Is, ast.IsNot)):
                    of_type = isinstance(node.left, ast.Call) and node.left.func.id == "type"
                    plain = isinstance(right, ast.Constant) and (right.value is None or isinstance(right.value, bool))
                    self.assertTrue(of_type or plain, place)

    def test_type_only_in_comparisons(self):
        held = {id(node.left) for _, node in self.each(ast.Compare)}
        for place, node in self.each(ast.Name):
            if node.id == "type":
                calls = [call for _, call in self.each(ast.Call) if call.func is node]
                self.assertTrue(calls and id(calls[0]) in held, place)

    def test_sets(self):
        """Sets stand only directly in len(..) and sorted(..)."""
        fine = set()
        for _, node in self.each(ast.Call):
            if isinstance(node.func, ast.Name) and node.func.id in ("len", "sorted") and not node.keywords:
                fine.add(id(node.args[0]))
        for place, node in self.each((ast.Set, ast.SetComp)):
            self.assertIn(id(node), fine, place)
        for place, node in self.each(ast.Call):
            if isinstance(node.func, ast.Name) and node.func.id == "set":
                self.assertIn(id(node), fine, place)

    def test_views_iterated_at_once(self):
        heads = set()
        for _, node in self.each((ast.For, ast.comprehension)):
            heads.add(id(node.iter))
            if isinstance(node.iter, ast.Call) and getattr(node.iter.func, "id", None) == "reversed":
                heads.update(id(item) for item in node.iter.args if getattr(item.func, "id", None) == "range")
        for _, node in self.each(ast.Call):
            if isinstance(node.func, ast.Name) and node.func.id in ("list", "tuple", "dict", "sorted", "sum"):
                heads.update(id(item) for item in node.args)
        for place, node in self.each(ast.Call):
            if isinstance(node.func, ast.Name) and node.func.id in ("zip", "enumerate", "range", "reversed", "map"):
                self.assertIn(id(node), heads, place)
            if isinstance(node.func, ast.Attribute) and node.func.attr in ("items", "keys", "values"):
                self.assertIn(id(node), heads, place)

    def test_errors(self):
        errors = {n.name: [b.id for b in n.bases] for n in self.trees["errors.py"].body if isinstance(n, ast.ClassDef)}
        for place, node in self.each(ast.ExceptHandler):
            self.assertIsInstance(node.type, ast.Name, place)
            self.assertIn(node.type.id, errors, place)
        for place, node in self.each(ast.Raise):
            if node.exc is not None:
                self.assertIsInstance(node.exc, ast.Call, place)
                self.assertIn(node.exc.func.id, errors, place)

    def test_comparing_functions_take_lists(self):
        for place, node in self.each(ast.Call):
            if isinstance(node.func, ast.Name) and node.func.id in ("any", "all", "sum"):
                self.assertIsInstance(node.args[0], (ast.ListComp, ast.Name), place)


if __name__ == "__main__":
    unittest.main()
