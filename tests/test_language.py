"""The rules of LANGUAGE.md that a look at the code can check."""

import ast
import builtins
import pathlib
import unittest
import warnings

PACKAGE = pathlib.Path(__file__).resolve().parent.parent / "tongueyard"
CALLED = """len range enumerate zip min max sum abs sorted reversed int str bool list tuple dict set isinstance ord repr
any all divmod Exception ValueError TypeError KeyError IndexError LookupError ZeroDivisionError""".split()
METHODS = """append clear copy count endswith extend find get index insert isalnum isalpha isdigit islower isspace
isupper items join keys ljust lower lstrip partition pop remove replace reverse rfind rjust rpartition rsplit rstrip
setdefault split splitlines startswith strip update upper values zfill bit_length""".split()
BARRED = """mro elements open input law version_info with_traceback add_note register eval exec compile globals locals
vars dir delattr super type typing dataclass namedtuple breakpoint os gc sys""".split()
DOUBLE = """__init__ __eq__ __repr__ __str__ __len__ __enter__ __exit__ __call__ __iter__""".split()
STATEMENTS = (ast.Assign, ast.AugAssign, ast.If, ast.While, ast.For, ast.Return, ast.Break, ast.Continue, ast.Pass,
              ast.Raise, ast.Assert, ast.Delete, ast.Try, ast.Expr, ast.FunctionDef, ast.ClassDef, ast.ImportFrom)


def files():
    return sorted(PACKAGE.glob("*.py"))


def trees():
    return [(path.name, ast.parse(path.read_text())) for path in files()]


def nodes(kind):
    return [(name, node) for name, tree in trees() for node in ast.walk(tree) if isinstance(node, kind)]


def bound_in(tree):
    """The names that a file binds at module level."""
    bound = []
    for node in tree.body:
        if isinstance(node, ast.ImportFrom):
            bound += [alias.name for alias in node.names]
        elif isinstance(node, (ast.FunctionDef, ast.ClassDef)):
            bound.append(node.name)
        elif isinstance(node, ast.Assign):
            bound += [target.id for target in node.targets]
    return bound


def local_names(function):
    names = [argument.arg for argument in ast.walk(function) if isinstance(argument, ast.arg)]
    names += [node.id for node in ast.walk(function) if isinstance(node, ast.Name) and isinstance(node.ctx, ast.Store)]
    return names + [node.name for node in ast.walk(function) if isinstance(node,
        ast.FunctionDef) and node is not function]


class Files(unittest.TestCase):
    def test_only_plain_files(self):
        found = [path for path in PACKAGE.iterdir() if path.name != "__pycache__"]
        self.assertTrue(all(path.suffix == ".py" and path.name == path.name.lower() for path in found), found)
        self.assertLessEqual(len(found), 100)
        self.assertIn("__init__.py", [path.name for path in found])

    def test_sizes_and_characters(self):
        for path in files():
            text = path.read_text(encoding="utf-8")
            lines = text.split("\n")
            self.assertLessEqual(len(text.splitlines()), 399, path.name)
            self.assertTrue(all(len(line) <= 120 for line in lines), path.name)
            self.assertTrue(all(char == "\n" or " " <= char <= "~" for char in text), path.name)
            self.assertNotIn(chr(37), text)
        for name, node in nodes(ast.FunctionDef):
            self.assertLessEqual(node.end_lineno - node.lineno + 1, 40, (name, node.name))

    def test_no_warnings(self):
        with warnings.catch_warnings():
            warnings.simplefilter("error")
            for path in files():
                compile(path.read_text(), path.name, "exec")


class Names(unittest.TestCase):
    def test_bound_once(self):
        for name, tree in trees():
            bound = bound_in(tree)
            self.assertEqual(len(bound), len(set(bound)), name)
            for function in [node for node in ast.walk(tree) if isinstance(node, ast.FunctionDef)]:
                taken = [one for one in bound if one in local_names(function)]
                self.assertEqual(taken, [], (name, function.name))

    def test_no_builtin_is_called_otherwise(self):
        for name, tree in trees():
            found = bound_in(tree)
            for node in ast.walk(tree):
                if isinstance(node, ast.FunctionDef):
                    found += local_names(node) + [node.name]
            taken = [one for one in found if hasattr(builtins, one) and one not in DOUBLE]
            self.assertEqual(taken, [], name)

    def test_no_barred_names(self):
        for name, node in nodes((ast.Name, ast.Attribute, ast.arg, ast.FunctionDef, ast.ClassDef)):
            word = getattr(node, "id", None) or getattr(node, "attr", None) or getattr(node, "arg", None) or node.name
            self.assertNotIn(word, BARRED, name)
            if word.startswith("__"):
                self.assertIn(word, DOUBLE, name)

    def test_imports(self):
        homes = {name[:-3]: tree for name, tree in trees()}
        for name, node in nodes((ast.Import, ast.ImportFrom)):
            self.assertIsInstance(node, ast.ImportFrom, name)
            self.assertEqual(node.level, 0)
            package, home = node.module.split(".")
            self.assertEqual(package, "tongueyard")
            own = [one.name for one in homes[home].body if isinstance(one, (ast.FunctionDef, ast.ClassDef))]
            own += [one.targets[0].id for one in homes[home].body if isinstance(one, ast.Assign)]
            for alias in node.names:
                self.assertIn(alias.name, own)
                self.assertIsNone(alias.asname)

    def test_no_attribute_is_a_method(self):
        methods = [node.name for _, one in nodes(ast.ClassDef) for node in one.body if isinstance(node,
            ast.FunctionDef)]
        stored = [node.attr for _, node in nodes(ast.Attribute) if isinstance(node.ctx, ast.Store)]
        self.assertEqual([name for name in stored if name in methods or name in METHODS], [])
        self.assertEqual([name for name in methods if name in METHODS], [])


class Forms(unittest.TestCase):
    def test_statements(self):
        for name, node in nodes(ast.stmt):
            self.assertIsInstance(node, STATEMENTS, (name, node.lineno))

    def test_what_is_not_used(self):
        barred = (ast.GeneratorExp, ast.SetComp, ast.Set, ast.Yield, ast.YieldFrom, ast.Await, ast.Div, ast.MatMult,
                  ast.Global, ast.Nonlocal, ast.AnnAssign, ast.NamedExpr, ast.Pow)
        self.assertEqual([(name, node.lineno) for name, node in nodes(barred)], [])
        for name, node in nodes(ast.Constant):
            self.assertIn(type(node.value), (int, str, bool, type(None)), name)
        for name, node in nodes((ast.FunctionDef, ast.ClassDef)):
            self.assertEqual(node.decorator_list, [], name)

    def test_stars_stand_in_zip_alone(self):
        in_zip = [one for _, node in nodes(ast.Call) for one in node.args
                  if isinstance(one, ast.Starred) and isinstance(one.value,
                      ast.Name) and ast.unparse(node.func) == "zip"]
        self.assertEqual(len(nodes(ast.Starred)), len(in_zip))

    def test_calls(self):
        own = {node.name for _, node in nodes((ast.FunctionDef, ast.ClassDef))}
        for name, node in nodes(ast.Call):
            if isinstance(node.func, ast.Name) and hasattr(builtins, node.func.id):
                self.assertIn(node.func.id, CALLED, name)
                self.assertEqual(node.keywords, [])
            elif isinstance(node.func, ast.Attribute):
                self.assertIn(node.func.attr, METHODS + sorted(own), name)
                if node.func.attr in METHODS:
                    self.assertEqual(node.keywords, [])

    def test_sets_stand_in_sorted_alone(self):
        for name, tree in trees():
            for node in ast.walk(tree):
                for child in ast.iter_child_nodes(node):
                    if isinstance(child, ast.Call) and isinstance(child.func, ast.Name) and child.func.id == "set":
                        self.assertTrue(isinstance(node, ast.Call) and node.func.id in ("sorted", "len"), name)

    def test_lambdas_stand_on_lines_of_their_own(self):
        lines = [(name, node.lineno) for name, node in nodes(ast.Lambda)]
        self.assertEqual(len(lines), len(set(lines)))

    def test_equal_asks_for_its_class_first(self):
        for name, node in nodes(ast.FunctionDef):
            if node.name == "__eq__":
                self.assertEqual(len(node.body), 1, name)
                self.assertTrue(ast.unparse(node.body[0]).startswith("return isinstance(other, "), name)
