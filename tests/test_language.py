"""The package keeps to its subset of Python, as far as a syntax tree shows it."""

import ast
import builtins
import pathlib
import re
import sys
import unittest

FOLDER = pathlib.Path(__file__).resolve().parent.parent / "enoughcharge"
FILES = sorted(FOLDER.rglob("*.py"))
TREES = {path: ast.parse(path.read_text(encoding="utf-8")) for path in FILES}

CALLS = set(
    "len range enumerate zip min max sum abs sorted reversed int str bool list tuple dict set isinstance ord repr any all "
    "divmod iter next map Exception ValueError TypeError KeyError property staticmethod classmethod super "
    "NotImplemented".split()
)
METHODS = set(
    "append clear copy count endswith extend find get index insert isalnum isalpha isdigit islower isspace isupper items "
    "join keys ljust lower lstrip partition pop remove replace reverse rfind rjust rpartition rsplit rstrip setdefault "
    "split splitlines startswith strip update upper values zfill bit_length".split()
)
DOUBLE = set(
    "__init__ __eq__ __repr__ __str__ __len__ __enter__ __exit__ __call__ __iter__ __le__ __ge__ __add__ __radd__ __iadd__ "
    "__and__ __or__ __bool__ __contains__ __getitem__".split()
)
BARRED = set(
    "register mro elements open input law version_info with_traceback add_note attrgetter breakpoint compile delattr dir "
    "eval exec exit gc getattr globals hasattr help id locals os quit setattr sys vars".split()
)
STATEMENTS = (
    ast.FunctionDef, ast.ClassDef, ast.Return, ast.Assign, ast.For, ast.While, ast.If, ast.With, ast.Raise, ast.Try,
    ast.Assert, ast.ImportFrom, ast.Expr, ast.Pass, ast.Break, ast.Continue, ast.Delete, ast.Nonlocal,
)
AT_ONCE = ("list", "tuple", "dict", "sorted", "sum", "any", "all", "enumerate", "zip", "min", "max")
CHANGES = ("append", "clear", "extend", "insert", "pop", "remove", "reverse", "setdefault", "update", "sort")
LAZY = ("zip", "enumerate", "reversed", "range")
PLAIN_NUMBERS = ("len", "int", "str", "repr", "ord", "range", "set")


def nodes(kind):
    """All nodes of this kind, with the paths of their files."""
    return [(path, node) for path, tree in TREES.items() for node in ast.walk(tree) if isinstance(node, kind)]


def called(node):
    """The bare name that a node calls, or None."""
    return node.func.id if isinstance(node, ast.Call) and isinstance(node.func, ast.Name) else None


def iterated_nodes(tree):
    """The nodes that are iterated on the spot."""
    found = []
    for node in ast.walk(tree):
        if isinstance(node, (ast.For, ast.comprehension)):
            found.append(node.iter)
        if called(node) in AT_ONCE and node.args:
            found.extend(node.args if called(node) == "zip" else node.args[:1])
    return found


def bound_names(tree):
    """All names that a file binds."""
    names = set()
    for node in ast.walk(tree):
        if isinstance(node, (ast.FunctionDef, ast.ClassDef)):
            names.add(node.name)
        elif isinstance(node, ast.arg):
            names.add(node.arg)
        elif isinstance(node, ast.alias):
            names.add(node.asname or node.name)
        elif isinstance(node, ast.Name) and isinstance(node.ctx, ast.Store):
            names.add(node.id)
        elif isinstance(node, ast.ExceptHandler) and node.name:
            names.add(node.name)
    return names


def created_names(function):
    """The local names that a function assigns only lists and dicts which it creates itself."""
    kinds = {}
    for node in ast.walk(function):
        if isinstance(node, ast.Assign):
            made = isinstance(node.value, (ast.List, ast.Dict, ast.ListComp)) or called(node.value) in ("list", "dict", "sorted")
            for target in node.targets:
                if isinstance(target, ast.Name):
                    kinds.setdefault(target.id, set()).add(made)
    return [name for name in kinds if kinds[name] == {True}]


def asked_functions():
    """All functions that are run where a property is read or an operator is used, with the paths of their files."""
    known = {}
    for path, node in nodes(ast.FunctionDef):
        known.setdefault(node.name, []).append((path, node))
    changing = ("__init__", "__enter__", "__exit__", "__iadd__", "__call__")
    line = []
    for path, node in nodes(ast.FunctionDef):
        is_property = "property" in [ast.unparse(mark) for mark in node.decorator_list]
        if is_property or (node.name.startswith("__") and node.name not in changing):
            line.append((path, node))
    found = []
    while line:
        pair = line.pop()
        if pair not in found:
            found.append(pair)
            for call in [part for part in ast.walk(pair[1]) if isinstance(part, ast.Call)]:
                name = call.func.attr if isinstance(call.func, ast.Attribute) else called(call)
                line.extend(known.get(name, []))
    return found


def top_names(tree):
    """The names that a file defines at module level, without its imports."""
    names = [node.name for node in tree.body if isinstance(node, (ast.FunctionDef, ast.ClassDef))]
    return names + [node.targets[0].id for node in tree.body if isinstance(node, ast.Assign)]


class LanguageTest(unittest.TestCase):
    def check(self, held, path, node, rule):
        self.assertTrue(held, f"{rule}: {path.name}:{getattr(node, 'lineno', 0)}")

    def test_files(self):
        for path in FOLDER.rglob("*"):
            if "__pycache__" not in path.parts:
                self.assertRegex(path.name, r"^[a-z_][a-z0-9_]*\.py$")
                self.assertNotIn(path.stem, sys.stdlib_module_names)
        self.assertLessEqual(len(FILES), 100)
        self.assertIn(FOLDER / "__init__.py", FILES)

    def test_sizes_and_characters(self):
        for path in FILES:
            lines = path.read_text(encoding="utf-8").split("\n")
            self.assertLessEqual(len(lines), 399, path)
            for line in lines:
                self.assertLessEqual(len(line), 120, path)
                self.assertRegex(line, r"^[ -~]*$", path)
                self.assertNotRegex(line, r"\(type\)|Meta|metaclass=|_wall")
        for path, node in nodes(ast.FunctionDef):
            self.check(node.end_lineno - node.lineno < 40, path, node, "L10")

    def test_statements_and_expressions(self):
        for path, node in nodes(ast.stmt):
            self.check(isinstance(node, STATEMENTS), path, node, "L6, or a += beside operators")
        for path, node in nodes((ast.Div, ast.Lambda, ast.YieldFrom, ast.GeneratorExp, ast.Await, ast.NamedExpr)):
            self.check(False, path, node, "L7")
        for path, node in nodes(ast.Constant):
            self.check(not isinstance(node.value, (float, complex, bytes)), path, node, "L7")
            self.check("%" not in str(node.value), path, node, "L27")
        for path, node in nodes(ast.Compare):
            for sign, right in zip(node.ops, node.comparators):
                if isinstance(sign, (ast.Is, ast.IsNot)):
                    self.check(isinstance(right, ast.Constant), path, node, "L20")

    def test_module_level(self):
        for path, tree in TREES.items():
            names = top_names(tree)
            for node in tree.body:
                plain = isinstance(node, (ast.FunctionDef, ast.ClassDef, ast.ImportFrom, ast.Assign))
                self.check(plain or (isinstance(node, ast.Expr) and isinstance(node.value, ast.Constant)), path, node, "L3")
                if isinstance(node, ast.ImportFrom):
                    names = names + [alias.name for alias in node.names]
            self.assertEqual(len(names), len(set(names)), f"L15: {path.name}")

    def test_imports(self):
        for path, node in nodes(ast.ImportFrom):
            self.check(node.level == 0 and re.fullmatch(r"enoughcharge\.[a-z]+", node.module), path, node, "L2")
            source = TREES[FOLDER / (node.module.split(".")[1] + ".py")]
            for alias in node.names:
                self.check(alias.asname is None and alias.name in top_names(source), path, node, "L16")
                used = [name for name in ast.walk(TREES[path]) if isinstance(name, ast.Name) and name.id == alias.name]
                self.check(used, path, node, "an import that is not used")

    def test_imports_go_one_way(self):
        later = {path.stem: {node.module.split(".")[1] for at, node in nodes(ast.ImportFrom) if at == path} for path in FILES}
        while later:
            free = [name for name in later if not later[name] & set(later)]
            self.assertTrue(free, "L16: files that import from each other")
            for name in free:
                del later[name]

    def test_names(self):
        known = set(dir(builtins))
        for path, tree in TREES.items():
            names = bound_names(tree)
            for name in names:
                self.assertRegex(name, r"^_$|^_?[A-Za-z][A-Za-z0-9_]*$|^__[a-z]+__$")
                self.assertFalse(name in known or name in BARRED, f"L15: {name} in {path.name}")
            for node in ast.walk(tree):
                if isinstance(node, ast.Name) and node.id not in names:
                    self.check(node.id in CALLS, path, node, f"L8: {node.id}")
                if isinstance(node, ast.Attribute):
                    self.check(node.attr not in BARRED, path, node, "L17")

    def test_no_name_hides_an_import_or_a_class(self):
        for path, tree in TREES.items():
            taken = [alias.name for node in tree.body if isinstance(node, ast.ImportFrom) for alias in node.names]
            taken = taken + [node.name for node in tree.body if isinstance(node, ast.ClassDef)]
            for node in ast.walk(tree):
                if isinstance(node, ast.arg):
                    self.check(node.arg not in taken, path, node, "L15")
                if isinstance(node, ast.Name) and isinstance(node.ctx, ast.Store):
                    self.check(node.id not in taken, path, node, "L15")

    def test_functions(self):
        for path, node in nodes(ast.FunctionDef):
            marks = [ast.unparse(mark) for mark in node.decorator_list]
            known = {"property", "staticmethod", "classmethod", f"{node.name}.setter"}
            self.check(set(marks) <= known and len(marks) <= 1, path, node, "L4")
            for default in node.args.defaults + [given for given in node.args.kw_defaults if given]:
                ast.literal_eval(default)
            if node.name.startswith("__"):
                self.check(node.name in DOUBLE, path, node, "L5")
            self.check(node.returns is None, path, node, "L21")
            self.check(ast.get_docstring(node) or node.name.startswith("__") or marks, path, node, "a docstring")
        for path, node in nodes(ast.ClassDef):
            self.check(not node.decorator_list and ast.get_docstring(node), path, node, "L5")

    def test_returns_of_double_underscore_methods(self):
        forms = {"__str__": ("str", "repr"), "__repr__": ("str", "repr"), "__len__": ("len",)}
        for path, node in nodes(ast.FunctionDef):
            if node.name in forms:
                self.check(isinstance(node.body[-1], ast.Return), path, node, "L28")
                for back in [part for part in ast.walk(node) if isinstance(part, ast.Return)]:
                    plain = isinstance(back.value, (ast.Constant, ast.JoinedStr)) or called(back.value) in forms[node.name]
                    joined = isinstance(back.value, ast.Call) and ast.unparse(back.value.func).endswith("'.join")
                    self.check(plain or (joined and node.name != "__len__"), path, back, "L28")

    def test_generators(self):
        for path, node in nodes(ast.FunctionDef):
            yields = [part for part in ast.walk(node) if isinstance(part, ast.Yield)]
            plain = [part.value for part in ast.walk(node) if isinstance(part, ast.Expr)]
            self.check(not yields or node in TREES[path].body, path, node, "L23")
            for part in yields:
                self.check(part in plain, path, part, "L23")
            for part in ast.walk(node):
                self.check(not yields or not isinstance(part, (ast.Try, ast.With)), path, part, "L23")

    def test_what_is_asked_changes_nothing(self):
        for path, function in asked_functions():
            own = created_names(function)
            for node in ast.walk(function):
                if isinstance(node, ast.Attribute):
                    self.check(isinstance(node.ctx, ast.Load), path, node, "L5")
                    if node.attr in CHANGES and not isinstance(node.value, ast.Constant):
                        self.check(isinstance(node.value, ast.Name) and node.value.id in own, path, node, "L5")
                if isinstance(node, ast.Subscript) and isinstance(node.ctx, (ast.Store, ast.Del)):
                    self.check(isinstance(node.value, ast.Name) and node.value.id in own, path, node, "L5")

    def test_methods_of_builtin_values(self):
        own = {node.name for _, node in nodes(ast.FunctionDef)}
        for path, node in nodes(ast.Call):
            if isinstance(node.func, ast.Attribute):
                self.check(node.func.attr in METHODS | own, path, node, "L25")

    def test_what_is_iterated_at_once(self):
        for path, tree in TREES.items():
            iterated = [id(node) for node in iterated_nodes(tree)]
            for node in ast.walk(tree):
                if called(node) in LAZY:
                    inside = [id(right) for near in ast.walk(tree) if isinstance(near, ast.Compare) for right in near.comparators]
                    self.check(id(node) in iterated + inside, path, node, "L23")

    def test_sets_are_sorted_or_counted(self):
        for path, tree in TREES.items():
            inside = [id(node.args[0]) for node in ast.walk(tree) if called(node) in ("sorted", "len") and node.args]
            for node in ast.walk(tree):
                if called(node) == "set" or isinstance(node, (ast.Set, ast.SetComp)):
                    self.check(id(node) in inside, path, node, "L24")

    def test_sorting_beside_an_order(self):
        for path, node in nodes(ast.Call):
            if called(node) in ("sorted", "min", "max"):
                given = node.args[0]
                plain = given.elt if isinstance(given, ast.ListComp) else given
                self.check(called(plain) in PLAIN_NUMBERS, path, node, "L5")
            if called(node) in ("any", "all", "sum"):
                self.check(isinstance(node.args[0], ast.ListComp), path, node, "L7")

    def test_handlers_name_own_errors(self):
        own = top_names(TREES[FOLDER / "errors.py"])
        for path, node in nodes(ast.ExceptHandler):
            self.check(node.type is not None and ast.unparse(node.type) in own, path, node, "L19")
        for path, node in nodes(ast.Raise):
            self.check(called(node.exc) in own + ["TypeError"], path, node, "L19")
