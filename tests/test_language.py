"""The package keeps to the small part of Python that it is written in (L1 to L28, as far as a file shows it)."""

import ast
import builtins
import pathlib
import re
import unittest

PACKAGE = pathlib.Path(__file__).resolve().parent.parent / "armswing"
FILES = sorted(PACKAGE.rglob("*.py"))

STATEMENTS = ("FunctionDef ClassDef Return Assign AugAssign For While If Raise Try ImportFrom Expr Pass Break "
              "Continue").split()
EXPRESSIONS = ("BoolOp BinOp UnaryOp Lambda IfExp Dict Set ListComp Compare Call FormattedValue JoinedStr Constant "
               "Attribute Subscript Name List Tuple Slice").split()
OPERATORS = ("And Or Add Sub Mult FloorDiv Mod Pow LShift RShift BitOr BitXor BitAnd Invert Not UAdd USub Eq NotEq Lt "
             "LtE Gt GtE Is IsNot In NotIn Load Store").split()
PARTS = "Module arguments arg keyword comprehension ExceptHandler alias".split()
NODES = STATEMENTS + EXPRESSIONS + OPERATORS + PARTS

OWN_OF_PYTHON = ("len range enumerate zip min max sum abs sorted reversed int str bool list tuple dict set frozenset "
                 "isinstance ord repr any all divmod Exception ValueError TypeError KeyError IndexError LookupError "
                 "ZeroDivisionError ArithmeticError OverflowError RuntimeError NotImplementedError AttributeError "
                 "StopIteration").split()
METHODS = ("append clear copy count endswith extend find get index insert isalnum isalpha isdigit islower isspace "
           "isupper items join keys ljust lower lstrip partition pop remove replace reverse rfind rjust rpartition "
           "rsplit rstrip setdefault split splitlines startswith strip update upper values zfill bit_length").split()
TWO_UNDERSCORES = ["__init__", "__eq__", "__repr__", "__str__", "__len__"]
FORBIDDEN = ("type typing typing_extensions enum Enum IntEnum StrEnum Flag IntFlag Generic Protocol ABC ABCMeta "
             "namedtuple NamedTuple TypedDict TYPE_CHECKING abstractmethod").split()
FORBIDDEN_WITHIN = ["dataclass", "overload", "contextmanager"]
VALUES_TOO = "count index title find get join lower upper split strip copy add".split()
NOWHERE = "register mro elements open input version_info with_traceback add_note format format_map sort".split()


def trees():
    return [(path, ast.parse(path.read_text())) for path in FILES]


def walked():
    return [(path, node) for path, tree in trees() for node in ast.walk(tree)]


def of_kind(*kinds):
    return [(path, node) for path, node in walked() if isinstance(node, kinds)]


class TestFiles(unittest.TestCase):
    def test_nothing_else_lies_there(self):
        for path in PACKAGE.rglob("*"):
            if path.name == "__pycache__" or path.parent.name == "__pycache__":
                continue
            self.assertRegex(path.name, r"^(__init__|__main__|[a-z][a-z0-9_]*)\.py$")
        self.assertIn(PACKAGE / "__init__.py", FILES)

    def test_signs_and_sizes(self):
        for path in FILES:
            text = path.read_bytes().decode("ascii")
            self.assertRegex(text, r"\A[ -~\n]*\Z", path)
            lines = text.split("\n")
            self.assertLessEqual(len(lines), 401, path)
            self.assertLessEqual(max(len(line) for line in lines), 120, path)

    def test_words_that_stand_nowhere(self):
        for path in FILES:
            text = path.read_text()
            for word in FORBIDDEN:
                self.assertIsNone(re.search(r"\b" + word + r"\b", text), (path, word))
            for word in FORBIDDEN_WITHIN:
                self.assertNotIn(word, text, path)


class TestForms(unittest.TestCase):
    def test_only_these_nodes(self):
        for path, node in walked():
            self.assertIn(node.__class__.__name__, NODES, (path, getattr(node, "lineno", 0)))

    def test_imports(self):
        drawn = {}
        for path, node in of_kind(ast.ImportFrom):
            self.assertEqual(node.level, 0, path)
            self.assertRegex(node.module, r"^armswing\.[a-z_]+$", path)
            source = PACKAGE / (node.module.split(".")[1] + ".py")
            defined = [top.name for top in ast.parse(source.read_text()).body if hasattr(top, "name")]
            for alias in node.names:
                self.assertIsNone(alias.asname, path)
                self.assertIn(alias.name, defined, path)
            drawn.setdefault(path, []).append(source)
        done = []
        while len(done) < len(FILES):
            ready = [path for path in FILES if path not in done and set(drawn.get(path, [])) <= set(done)]
            self.assertTrue(ready, "files that draw from one another")
            done.extend(ready)

    def test_tops_of_files(self):
        for path, tree in trees():
            bound = []
            for at, node in enumerate(tree.body):
                if isinstance(node, ast.Expr):
                    self.assertEqual(at, 0, path)
                    self.assertIsInstance(node.value, ast.Constant, path)
                elif isinstance(node, ast.Assign):
                    ast.literal_eval(node.value)
                    bound.append(node.targets[0].id)
                else:
                    self.assertIsInstance(node, (ast.ImportFrom, ast.FunctionDef, ast.ClassDef), path)
                    bound.extend([node.name] if hasattr(node, "name") else [alias.name for alias in node.names])
            self.assertEqual(len(set(bound)), len(bound), path)

    def test_functions(self):
        for path, node in of_kind(ast.FunctionDef):
            where = (path, node.name)
            self.assertLessEqual(node.end_lineno - node.lineno + 1, 40, where)
            self.assertEqual(node.decorator_list, [], where)
            self.assertIsNone(node.args.vararg or node.args.kwarg or node.returns, where)
            self.assertEqual(node.args.kwonlyargs + node.args.posonlyargs, [], where)
            for value in node.args.defaults:
                self.assertIsInstance(value, ast.Constant, where)
            for inner in node.body:
                if isinstance(inner, ast.Expr):
                    self.assertIsInstance(inner.value, ast.Call, where)

    def test_classes(self):
        for path, node in of_kind(ast.ClassDef):
            where = (path, node.name)
            self.assertEqual((node.decorator_list, node.keywords), ([], []), where)
            self.assertLessEqual(len(node.bases), 1, where)
            for inner in node.body:
                self.assertIsInstance(inner, (ast.FunctionDef, ast.Pass), where)
            names = [inner.name for inner in node.body if isinstance(inner, ast.FunctionDef)]
            self.assertEqual(len(set(names)), len(names), where)

    def test_values(self):
        for path, node in of_kind(ast.Constant):
            self.assertIn(node.value.__class__, (int, str, bool, None.__class__), (path, node.lineno))
            self.assertNotIn("%", str(node.value), (path, node.lineno))
        for path, node in of_kind(ast.Assign):
            self.assertEqual(len(node.targets), 1, (path, node.lineno))
            self.assertIsInstance(node.targets[0], (ast.Name, ast.Attribute, ast.Subscript), (path, node.lineno))
        for path, node in of_kind(ast.ListComp):
            self.assertEqual(len(node.generators), 1, (path, node.lineno))
            self.assertLessEqual(len(node.generators[0].ifs), 1, (path, node.lineno))
        for path, node in of_kind(ast.For, ast.While):
            self.assertEqual(node.orelse, [], (path, node.lineno))
        for path, node in of_kind(ast.Compare):
            if isinstance(node.ops[0], (ast.Is, ast.IsNot)):
                self.assertIn(node.comparators[0].value, (None, True, False), (path, node.lineno))
        for path, node in of_kind(ast.BinOp):
            if isinstance(node.op, ast.Pow):
                self.assertIsInstance(node.right, ast.Constant, (path, node.lineno))
        for path, node in of_kind(ast.FormattedValue):
            self.assertIsInstance(node.value, ast.Name, (path, node.lineno))
            self.assertIsNone(node.format_spec, (path, node.lineno))

    def test_classes_are_called_and_named_alone(self):
        classes = {node.name for path, node in of_kind(ast.ClassDef)}
        for path, tree in trees():
            allowed = []
            for node in ast.walk(tree):
                if isinstance(node, ast.Call):
                    allowed.append(node.func)
                    if isinstance(node.func, ast.Attribute) and node.func.attr == "__init__":
                        allowed.append(node.func.value)
                    if isinstance(node.func, ast.Name) and node.func.id == "isinstance":
                        allowed.append(node.args[1])
                if isinstance(node, ast.ClassDef):
                    allowed.extend(node.bases)
                if isinstance(node, ast.ExceptHandler):
                    allowed.extend(node.type.elts if isinstance(node.type, ast.Tuple) else [node.type])
            for node in ast.walk(tree):
                if isinstance(node, ast.Name) and node.id in classes:
                    self.assertIn(node, allowed, (path, node.lineno))
                if isinstance(node, ast.Attribute) and isinstance(node.ctx, ast.Store):
                    self.assertIsInstance(node.value, ast.Name, (path, node.lineno))

    def test_errors_are_made_on_the_spot_and_taken_by_name(self):
        for path, node in of_kind(ast.Raise):
            self.assertIsInstance(node.exc, ast.Call, (path, node.lineno))
        own = {node.name for path, node in of_kind(ast.ClassDef)}
        for path, node in of_kind(ast.ExceptHandler):
            self.assertIsInstance(node.type, ast.Name, (path, node.lineno))
            self.assertIn(node.type.id, own | {"KeyError", "ZeroDivisionError", "StopIteration"}, (path, node.lineno))

    def test_keywords_of_pythons_own(self):
        told = {"sorted": ["key", "reverse"], "min": ["key", "default"], "max": ["key", "default"],
                "sum": ["start"], "enumerate": ["start"], "zip": ["strict"]}
        own = {node.name for path, node in of_kind(ast.FunctionDef, ast.ClassDef)}
        for path, node in of_kind(ast.Call):
            for keyword in node.keywords:
                name = getattr(node.func, "id", "") or node.func.attr
                if name not in own:
                    self.assertIn(keyword.arg, told.get(name, []), (path, node.lineno))
                if keyword.arg == "key":
                    self.assertIsInstance(keyword.value, ast.Lambda, (path, node.lineno))

    def test_walked_at_once(self):
        walking = ["zip", "enumerate", "reversed", "range", "items", "keys", "values"]
        around = ["list", "tuple", "dict", "sorted", "sum", "any", "all", "enumerate", "zip", "min", "max", "join"]
        for path, tree in trees():
            allowed = []
            for node in ast.walk(tree):
                if isinstance(node, (ast.For, ast.comprehension)):
                    allowed.append(node.iter)
                if isinstance(node, ast.Call) and node.args:
                    if (getattr(node.func, "id", "") or getattr(node.func, "attr", "")) in around:
                        allowed.append(node.args[0])
            for node in ast.walk(tree):
                if isinstance(node, ast.Call):
                    name = getattr(node.func, "id", "") or getattr(node.func, "attr", "")
                    if name in walking:
                        self.assertIn(node, allowed, (path, node.lineno))
                    # Narrower than L24, which lets a set stand in a few places: the program needs none.
                    self.assertNotIn(name, ("set", "frozenset"), (path, node.lineno))


class TestNames(unittest.TestCase):
    def test_plain_names(self):
        names = [(path, node.id) for path, node in of_kind(ast.Name)]
        names += [(path, node.arg) for path, node in of_kind(ast.arg)]
        names += [(path, node.attr) for path, node in of_kind(ast.Attribute)]
        names += [(path, node.name) for path, node in of_kind(ast.FunctionDef, ast.ClassDef)]
        for path, name in names:
            if name not in TWO_UNDERSCORES:
                self.assertRegex(name, r"^[A-Za-z][A-Za-z0-9_]*$", path)
            self.assertNotIn(name, NOWHERE, path)

    def test_names_of_pythons_own(self):
        for path, tree in trees():
            tops = [node.name for node in tree.body if hasattr(node, "name")]
            tops += [alias.name for node in tree.body if isinstance(node, ast.ImportFrom) for alias in node.names]
            nodes = list(ast.walk(tree))
            bound = [node.id for node in nodes if isinstance(node, ast.Name) and isinstance(node.ctx, ast.Store)]
            bound += [node.arg for node in nodes if isinstance(node, ast.arg)]
            bound += [node.name for node in nodes if isinstance(node, ast.ExceptHandler) and node.name]
            for name in bound:
                self.assertNotIn(name, dir(builtins), path)
                self.assertNotIn(name, tops, path)
            for node in nodes:
                if isinstance(node, ast.Name) and isinstance(node.ctx, ast.Load):
                    self.assertIn(node.id, tops + bound + OWN_OF_PYTHON, (path, node.lineno))

    def test_methods_and_values_keep_apart(self):
        methods = [inner.name for path, node in of_kind(ast.ClassDef) for inner in node.body if hasattr(inner, "name")]
        called = [node.func.attr for path, node in of_kind(ast.Call) if isinstance(node.func, ast.Attribute)]
        for name in called:
            self.assertIn(name, methods + METHODS)
        values = [node.attr for path, node in of_kind(ast.Attribute) if isinstance(node.ctx, ast.Store)]
        for name in values:
            self.assertNotIn(name, methods)
            for kind in (int, str, list, tuple, dict, set, bytes):
                self.assertFalse(hasattr(kind, name) and name not in VALUES_TOO, name)


if __name__ == "__main__":
    unittest.main()
