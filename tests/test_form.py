"""The form of the package's code: what of LANGUAGE.md a walk over it can see."""

import ast
import builtins
import pathlib
import re
import unittest

PACKAGE = pathlib.Path(__file__).resolve().parent.parent / "manyleast"
FILES = sorted(PACKAGE.glob("*.py"))

OWN_NAMES = set(
    "len range enumerate zip min max sum abs sorted reversed int str bool list tuple dict set frozenset isinstance"
    " ord repr any all divmod Exception ValueError TypeError KeyError IndexError LookupError ZeroDivisionError"
    " ArithmeticError OverflowError RuntimeError NotImplementedError AttributeError StopIteration".split()
)
WALKED = ("zip", "enumerate", "reversed", "range")
METHODS = set(
    "append clear copy count endswith extend find get index insert isalnum isalpha isdigit islower isspace isupper"
    " items join keys ljust lower lstrip partition pop remove replace reverse rfind rjust rpartition rsplit rstrip"
    " setdefault split splitlines startswith strip update upper values zfill bit_length".split()
)
SPECIAL = ("__init__", "__eq__", "__repr__", "__str__", "__len__")
WORDS = (
    "type typing typing_extensions enum Enum IntEnum StrEnum Flag IntFlag Generic Protocol ABC ABCMeta namedtuple"
    " NamedTuple TypedDict TYPE_CHECKING abstractmethod".split()
)
BANNED = (
    "register mro elements open input version_info with_traceback add_note attrgetter breakpoint builtins compile"
    " delattr dir eval exec exit gc getattr globals hasattr help id importlib locals methodcaller os quit setattr"
    " super vars sys format format_map chr".split()
)
NODES = (
    ast.Module, ast.FunctionDef, ast.ClassDef, ast.arguments, ast.arg, ast.ImportFrom, ast.alias, ast.Assign,
    ast.AugAssign, ast.If, ast.While, ast.For, ast.Return, ast.Break, ast.Continue, ast.Pass, ast.Raise, ast.Try,
    ast.ExceptHandler, ast.Expr, ast.Constant, ast.List, ast.Tuple, ast.Dict, ast.Set, ast.BinOp, ast.UnaryOp,
    ast.BoolOp, ast.Compare, ast.IfExp, ast.Call, ast.keyword, ast.Attribute, ast.Subscript, ast.Slice,
    ast.ListComp, ast.comprehension, ast.JoinedStr, ast.FormattedValue, ast.Lambda, ast.Name, ast.expr_context,
    ast.operator, ast.unaryop, ast.boolop, ast.cmpop,
)


def walks():
    """Each file's name, with each part of its code."""
    for path in FILES:
        for node in ast.walk(ast.parse(path.read_text(encoding="ascii"))):
            yield f"{path.name}:{getattr(node, 'lineno', 0)}", node


def drawn_from(path):
    """The files from which this one draws."""
    parts = ast.walk(ast.parse(path.read_text(encoding="ascii")))
    return [part.module.split(".")[1] for part in parts if isinstance(part, ast.ImportFrom)]


def bound_names(node):
    if isinstance(node, (ast.FunctionDef, ast.ClassDef)):
        return [node.name]
    if isinstance(node, ast.arg):
        return [node.arg]
    if isinstance(node, ast.Name) and isinstance(node.ctx, ast.Store):
        return [node.id]
    if isinstance(node, ast.ExceptHandler) and node.name:
        return [node.name]
    return []


def is_call(node):
    return isinstance(node, ast.Call)


def own_methods():
    return [node.name for spot, node in walks() if isinstance(node, ast.FunctionDef)]


class Files(unittest.TestCase):
    def test_only_plain_files(self):
        for path in PACKAGE.iterdir():
            if path.name != "__pycache__":
                self.assertRegex(path.name, r"^[a-z0-9_]+\.py$")
        self.assertIn("__init__.py", [path.name for path in FILES])

    def test_signs_and_sizes(self):
        for path in FILES:
            text = path.read_bytes().decode("ascii")
            self.assertRegex(text, r"\A[ -~\n]*\Z", path.name)
            lines = text.split("\n")
            self.assertLessEqual(len(lines), 401, path.name)
            self.assertLessEqual(max(len(line) for line in lines), 120, path.name)

    def test_words_that_stand_nowhere(self):
        for path in FILES:
            text = path.read_text(encoding="ascii")
            for word in WORDS:
                self.assertIsNone(re.search(rf"\b{word}\b", text), (path.name, word))
            for word in ("dataclass", "overload", "contextmanager"):
                self.assertNotIn(word, text, path.name)


class Code(unittest.TestCase):
    def test_statements_and_expressions(self):
        for spot, node in walks():
            self.assertIsInstance(node, NODES, spot)
            self.assertNotIsInstance(node, (ast.Div, ast.MatMult), spot)
            if isinstance(node, (ast.For, ast.While)):
                self.assertEqual(node.orelse, [], spot)
            if isinstance(node, ast.Try):
                self.assertEqual(node.finalbody, [], spot)
            if isinstance(node, ast.Assign):
                self.assertEqual(len(node.targets), 1, spot)
            if isinstance(node, ast.Constant):
                self.assertIsInstance(node.value, (int, str, type(None)), spot)
            if isinstance(node, ast.comprehension):
                self.assertLessEqual(len(node.ifs), 1, spot)
            if isinstance(node, ast.ListComp):
                self.assertEqual(len(node.generators), 1, spot)

    def test_functions_and_classes(self):
        for spot, node in walks():
            if isinstance(node, (ast.FunctionDef, ast.ClassDef)):
                self.assertEqual(node.decorator_list, [], spot)
            if isinstance(node, ast.FunctionDef):
                self.assertLessEqual(node.end_lineno - node.lineno + 1, 40, spot)
            if isinstance(node, ast.arguments):
                self.assertEqual((node.vararg, node.kwarg, node.kwonlyargs, node.posonlyargs), (None, None, [], []))
            if isinstance(node, ast.ClassDef):
                self.assertLessEqual(len(node.bases), 1, spot)
                for part in node.body[1:] if ast.get_docstring(node) else node.body:
                    self.assertIsInstance(part, (ast.FunctionDef, ast.Pass), spot)

    def test_imports(self):
        for spot, node in walks():
            if isinstance(node, ast.ImportFrom):
                self.assertEqual(node.level, 0, spot)
                self.assertRegex(node.module, r"^manyleast\.[a-z0-9_]+$", spot)
                self.assertTrue((PACKAGE / f"{node.module.split('.')[1]}.py").is_file(), spot)
                self.assertNotIn("*", [alias.name for alias in node.names], spot)

    def test_imports_are_of_what_the_file_itself_defines(self):
        for spot, node in walks():
            if isinstance(node, ast.ImportFrom):
                code = ast.parse((PACKAGE / f"{node.module.split('.')[1]}.py").read_text(encoding="ascii"))
                defined = [part.name for part in code.body if isinstance(part, (ast.FunctionDef, ast.ClassDef))]
                for alias in node.names:
                    self.assertIn(alias.name, defined, spot)
                    self.assertIsNone(alias.asname, spot)

    def test_no_two_files_draw_from_one_another(self):
        drawn = {path.stem: drawn_from(path) for path in FILES}
        while drawn:
            free = [name for name in drawn if not set(drawn[name]) & set(drawn)]
            self.assertNotEqual(free, [], drawn)
            drawn = {name: drawn[name] for name in drawn if name not in free}

    def test_no_local_is_called_like_an_import_or_a_class(self):
        for path in FILES:
            parts = list(ast.walk(ast.parse(path.read_text(encoding="ascii"))))
            taken = [part.name for part in parts if isinstance(part, (ast.ClassDef, ast.alias))]
            methods = [method for part in parts if isinstance(part, ast.ClassDef) for method in part.body]
            for part in parts:
                # A method may be called like an import.
                if not isinstance(part, ast.ClassDef) and part not in methods:
                    for name in bound_names(part):
                        self.assertNotIn(name, taken, path.name)

    def test_the_top_of_a_file(self):
        for path in FILES:
            code = ast.parse(path.read_text(encoding="ascii"))
            self.assertIsNotNone(ast.get_docstring(code), path.name)
            names = []
            for part in code.body[1:]:
                self.assertIsInstance(part, (ast.ImportFrom, ast.FunctionDef, ast.ClassDef, ast.Assign), path.name)
                if isinstance(part, ast.Assign):
                    # Plain values alone, and no list or dict within another one.
                    value = ast.literal_eval(part.value)
                    inner = list(value.values()) if isinstance(value, dict) else value
                    if not isinstance(inner, (int, str)):
                        self.assertFalse(any(isinstance(thing, (list, dict)) for thing in inner), path.name)
                names += bound_names(part.targets[0] if isinstance(part, ast.Assign) else part)
                names += [alias.name for alias in part.names] if isinstance(part, ast.ImportFrom) else []
            self.assertEqual(len(names), len(set(names)), path.name)

    def test_what_stands_at_a_files_top_is_only_read(self):
        for path in FILES:
            code = ast.parse(path.read_text(encoding="ascii"))
            tops = [part.targets[0].id for part in code.body if isinstance(part, ast.Assign)]
            handed = [part.args + [word.value for word in part.keywords] for part in ast.walk(code) if is_call(part)]
            told = [[part.value] for part in ast.walk(code) if isinstance(part, ast.Return)]
            for part in [part for parts in handed + told for part in parts]:
                self.assertFalse(isinstance(part, ast.Name) and part.id in tops, path.name)

    def test_no_name_is_a_method_and_a_value(self):
        methods = []
        values = []
        for spot, node in walks():
            if isinstance(node, ast.ClassDef):
                own = [part.name for part in node.body if isinstance(part, ast.FunctionDef)]
                self.assertEqual(len(own), len(set(own)), spot)
                methods += [name for name in own if name not in SPECIAL]
            if isinstance(node, ast.Attribute) and isinstance(node.ctx, ast.Store):
                values.append(node.attr)
        self.assertEqual(set(methods) & set(values), set())
        pythons = [name for kind in (str, int, list, tuple, dict, set, frozenset, bytes) for name in dir(kind)]
        for name in methods + values:
            self.assertNotIn(name, pythons)

    def test_errors_are_made_on_the_spot_and_taken_by_name(self):
        errors = ast.parse((PACKAGE / "errors.py").read_text(encoding="ascii"))
        kinds = [part.name for part in errors.body if isinstance(part, ast.ClassDef)]
        for spot, node in walks():
            if isinstance(node, ast.Raise):
                self.assertTrue(is_call(node.exc) and node.exc.func.id in kinds, spot)
                self.assertTrue(node.cause is None or getattr(node.cause, "value", 0) is None, spot)
            if isinstance(node, ast.ExceptHandler):
                self.assertIn(node.type.id, kinds, spot)
            if isinstance(node, ast.FormattedValue):
                self.assertIsInstance(node.value, ast.Name, spot)
                self.assertIsNone(node.format_spec, spot)

    def test_names(self):
        for spot, node in walks():
            for name in bound_names(node):
                if name not in SPECIAL:
                    self.assertRegex(name, r"^[A-Za-z][A-Za-z0-9_]*$", spot)
                self.assertNotIn(name, BANNED, spot)
            if isinstance(node, ast.Name):
                self.assertNotIn(node.id, BANNED, spot)
                if hasattr(builtins, node.id):
                    self.assertIn(node.id, OWN_NAMES, spot)
                    self.assertIsInstance(node.ctx, ast.Load, spot)
            if isinstance(node, ast.arg):
                self.assertFalse(hasattr(builtins, node.arg), spot)

    def test_methods(self):
        allowed = METHODS | set(own_methods()) | set(SPECIAL)
        for spot, node in walks():
            if isinstance(node, ast.Call) and isinstance(node.func, ast.Attribute):
                self.assertIn(node.func.attr, allowed, spot)
            if isinstance(node, ast.Attribute):
                self.assertNotIn(node.attr, BANNED, spot)

    def test_is_stands_beside_none_true_false(self):
        for spot, node in walks():
            if isinstance(node, ast.Compare):
                for sign, right in zip(node.ops, node.comparators):
                    if isinstance(sign, (ast.Is, ast.IsNot)):
                        self.assertIsInstance(right, ast.Constant, spot)
                        self.assertIn(right.value, (None, True, False), spot)

    def test_written_exponents(self):
        for spot, node in walks():
            if isinstance(node, ast.BinOp) and isinstance(node.op, ast.Pow):
                self.assertIsInstance(node.right, ast.Constant, spot)
                self.assertIn(node.right.value, range(65), spot)

    def test_no_two_lambdas_on_one_line(self):
        spots = [spot for spot, node in walks() if isinstance(node, ast.Lambda)]
        self.assertEqual(len(spots), len(set(spots)), spots)

    def test_inner_functions_assign_nothing_around_them(self):
        for spot, outer in walks():
            if isinstance(outer, ast.FunctionDef):
                inner = [part for part in ast.walk(outer) if isinstance(part, ast.FunctionDef) and part is not outer]
                around = [arg.arg for arg in outer.args.args]
                for part in inner:
                    for name in [name for step in ast.walk(part) if step is not part for name in bound_names(step)]:
                        self.assertNotIn(name, around, spot)

    def test_walked_at_once(self):
        for spot, node in walks():
            if isinstance(node, (ast.Assign, ast.Return)) and isinstance(node.value, ast.Call):
                if isinstance(node.value.func, ast.Name):
                    self.assertNotIn(node.value.func.id, WALKED, spot)


if __name__ == "__main__":
    unittest.main()
