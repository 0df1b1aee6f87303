"""Those rules of the language subset that a look at the package's files can tell."""

import ast
import builtins
import pathlib
import re
import unittest

PACKAGE = pathlib.Path(__file__).resolve().parent.parent / "bridgeward"
FILES = sorted(PACKAGE.rglob("*.py"))
TREES = {path.stem: ast.parse(path.read_text(encoding="utf-8")) for path in FILES}

ALLOWED_BUILTINS = set(
    """len range enumerate zip min max sum abs sorted reversed int str bool list tuple dict set isinstance ord repr
    any all divmod iter next map ValueError TypeError KeyError IndexError LookupError NotImplemented None True False
    """.split()
)
ALLOWED_METHODS = set(
    """append clear copy count endswith extend find get index insert isalnum isalpha isdigit islower isspace isupper
    items join keys ljust lower lstrip partition pop remove replace reverse rfind rjust rpartition rsplit rstrip
    setdefault split splitlines startswith strip update upper values zfill bit_length add discard removeprefix
    removesuffix rindex isascii isdecimal isnumeric""".split()
)
ALLOWED_DUNDERS = set("__init__ __eq__ __repr__ __str__ __len__ __iter__ __contains__ __getitem__".split())
BARRED_WORDS = set(
    """register mro elements open input law version_info with_traceback add_note attrgetter breakpoint builtins compile
    copyright credits delattr dir eval exec exit gc getattr globals hasattr help id importlib license locals
    methodcaller os quit setattr super type vars sys typing enum Enum Flag Generic Protocol ABC namedtuple
    dataclass""".split()
)
BARRED_NODES = (
    ast.Global, ast.AsyncFunctionDef, ast.Await, ast.Import, ast.Div, ast.JoinedStr, ast.Lambda, ast.Yield,
    ast.YieldFrom, ast.With, ast.Match, ast.NamedExpr, ast.AnnAssign,
)
TAKES_NO_GENERATOR = {"any", "all", "min", "max", "sum", "sorted", "set"}


def every_node():
    for name, tree in TREES.items():
        for node in ast.walk(tree):
            yield name, node


def bound_names(tree):
    """The names that are parameters, variables, functions or classes."""
    for node in ast.walk(tree):
        if isinstance(node, ast.arg):
            yield node.arg
        elif isinstance(node, ast.Name) and isinstance(node.ctx, ast.Store):
            yield node.id
        elif isinstance(node, (ast.FunctionDef, ast.ClassDef)):
            yield node.name


def module_names(tree):
    """The names that a module itself defines, as a list."""
    names = []
    for node in tree.body:
        if isinstance(node, (ast.FunctionDef, ast.ClassDef)):
            names.append(node.name)
        elif isinstance(node, ast.Assign):
            names.extend(target.id for target in node.targets)
    return names


def imports_of(tree):
    return [node for node in tree.body if isinstance(node, ast.ImportFrom)]


class TestFiles(unittest.TestCase):
    def test_only_plainly_named_files(self):
        for path in PACKAGE.rglob("*"):
            if "__pycache__" not in path.parts:
                self.assertRegex(path.name, r"^([a-z][a-z0-9]*|__init__)\.py$")

    def test_characters_and_sizes(self):
        for path in FILES:
            text = path.read_text(encoding="utf-8")
            self.assertRegex(text, r"\A[ -~\n]*\Z", path.name)
            self.assertLessEqual(len(text.splitlines()), 399, path.name)
            self.assertLessEqual(max(map(len, text.splitlines())), 120, path.name)

    def test_functions_are_short(self):
        for name, node in every_node():
            if isinstance(node, ast.FunctionDef):
                self.assertLessEqual(node.end_lineno - node.lineno + 1, 40, (name, node.name))
                self.assertEqual(node.decorator_list, [])


class TestModules(unittest.TestCase):
    def test_module_level(self):
        allowed = (ast.ImportFrom, ast.FunctionDef, ast.ClassDef)
        for name, tree in TREES.items():
            self.assertIsNotNone(ast.get_docstring(tree), name)
            for node in tree.body[1:]:
                if isinstance(node, ast.Assign):
                    ast.literal_eval(node.value)
                    self.assertEqual(len(node.targets), 1)
                else:
                    self.assertIsInstance(node, allowed, name)

    def test_dicts_at_module_level_are_only_read(self):
        for name, tree in TREES.items():
            tables = [
                target.id for node in tree.body if isinstance(node, ast.Assign) and isinstance(node.value, (ast.Dict, ast.List))
                for target in node.targets
            ]
            read = []
            for node in ast.walk(tree):
                if isinstance(node, ast.Subscript) and isinstance(node.ctx, ast.Load):
                    read.append(node.value)
                elif isinstance(node, ast.Attribute) and node.attr in ("get", "items"):
                    read.append(node.value)
                elif isinstance(node, ast.Compare):
                    read.extend(node.comparators)
            uses = [
                node for node in ast.walk(tree)
                if isinstance(node, ast.Name) and node.id in tables and isinstance(node.ctx, ast.Load)
            ]
            self.assertLessEqual(set(uses), set(read), name)

    def test_tables_are_not_imported(self):
        tables = {
            target.id for tree in TREES.values() for node in tree.body
            if isinstance(node, ast.Assign) and isinstance(node.value, (ast.Dict, ast.List)) for target in node.targets
        }
        for name, tree in TREES.items():
            imported = {alias.name for node in imports_of(tree) for alias in node.names}
            self.assertEqual(imported & tables, set(), name)

    def test_names_are_bound_once(self):
        for name, tree in TREES.items():
            names = module_names(tree) + [alias.name for node in imports_of(tree) for alias in node.names]
            self.assertEqual(len(names), len(set(names)), name)

    def test_imports_name_the_defining_file(self):
        for name, tree in TREES.items():
            for node in imports_of(tree):
                package, _, source = node.module.partition(".")
                self.assertEqual((package, node.level), ("bridgeward", 0), name)
                for alias in node.names:
                    self.assertIsNone(alias.asname)
                    self.assertIn(alias.name, module_names(TREES[source]), name)

    def test_imports_are_used_and_shadowed_by_nothing(self):
        for name, tree in TREES.items():
            imported = {alias.name for node in imports_of(tree) for alias in node.names}
            used = {node.id for node in ast.walk(tree) if isinstance(node, ast.Name)}
            self.assertLessEqual(imported, used, name)
            classes = {node.name for node in tree.body if isinstance(node, ast.ClassDef)}
            held = [bound for bound in bound_names(tree) if bound in imported]
            self.assertEqual(held, [], name)
            self.assertEqual(sorted(bound for bound in bound_names(tree) if bound in classes), sorted(classes))

    def test_no_circle_of_imports(self):
        left = {name: {node.module.partition(".")[2] for node in imports_of(tree)} for name, tree in TREES.items()}
        while left:
            free = [name for name in left if not left[name] & set(left)]
            self.assertNotEqual(free, [], left)
            left = {name: left[name] for name in left if name not in free}


class TestNames(unittest.TestCase):
    def test_nothing_is_called_as_a_builtin(self):
        barred = set(dir(builtins)) | BARRED_WORDS
        for name, tree in TREES.items():
            self.assertEqual([bound for bound in bound_names(tree) if bound in barred], [], name)

    def test_builtins_that_are_used(self):
        for name, node in every_node():
            if isinstance(node, ast.Name) and hasattr(builtins, node.id):
                self.assertIn(node.id, ALLOWED_BUILTINS, name)

    def test_double_underscores_and_attributes(self):
        for name, node in every_node():
            if isinstance(node, ast.FunctionDef) and node.name.startswith("__"):
                self.assertIn(node.name, ALLOWED_DUNDERS)
            if isinstance(node, ast.Attribute):
                self.assertNotIn(node.attr, BARRED_WORDS)
                self.assertFalse(node.attr.startswith("__"), name)

    def test_methods_that_are_called(self):
        own = {node.name for _, node in every_node() if isinstance(node, ast.FunctionDef)}
        for name, node in every_node():
            if isinstance(node, ast.Call) and isinstance(node.func, ast.Attribute):
                self.assertIn(node.func.attr, ALLOWED_METHODS | own, name)

    def test_words_in_strings(self):
        for name, node in every_node():
            if isinstance(node, ast.Constant) and isinstance(node.value, str):
                self.assertNotIn("%", node.value, name)
                self.assertEqual(set(re.findall(r"\w+", node.value)) & {"type", "typing", "enum"}, set())


class TestExpressions(unittest.TestCase):
    def test_barred_parts(self):
        for name, node in every_node():
            self.assertNotIsInstance(node, BARRED_NODES, name)
            if isinstance(node, ast.Constant):
                self.assertNotIsInstance(node.value, float)

    def test_is_stands_beside_none_alone(self):
        for name, node in every_node():
            if isinstance(node, ast.Compare):
                for sign, right in zip(node.ops, node.comparators):
                    if isinstance(sign, (ast.Is, ast.IsNot)):
                        self.assertIsInstance(right, ast.Constant, name)

    def test_no_generator_where_a_list_is_due(self):
        for name, node in every_node():
            if isinstance(node, ast.Call) and isinstance(node.func, ast.Name) and node.func.id in TAKES_NO_GENERATOR:
                for part in node.args:
                    self.assertNotIsInstance(part, ast.GeneratorExp, (name, node.lineno))

    def test_sets_are_made_where_they_may_be(self):
        for name, node in every_node():
            for part in ast.iter_child_nodes(node):
                made = isinstance(part, (ast.Set, ast.SetComp))
                if made or isinstance(part, ast.Call) and isinstance(part.func, ast.Name) and part.func.id == "set":
                    plain = isinstance(node, (ast.Assign, ast.Compare))
                    called = isinstance(node, ast.Call) and isinstance(node.func, ast.Name)
                    self.assertTrue(plain or called and node.func.id in ("len", "sorted"), (name, part.lineno))

    def test_raise_makes_its_error(self):
        for name, node in every_node():
            if isinstance(node, ast.Raise):
                self.assertIsInstance(node.exc, ast.Call, name)
                self.assertIsInstance(node.exc.func, ast.Name, name)


if __name__ == "__main__":
    unittest.main()
