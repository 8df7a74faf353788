"""The rules for the program's own files that can be seen in their text: their size, signs, words and forms."""

import ast
import builtins
import pathlib
import re
import unittest

PACKAGE = pathlib.Path(__file__).resolve().parent.parent / "surelinks"

ALLOWED_NAMES = set("""
len range enumerate zip min max sum abs sorted reversed int str bool list tuple dict set frozenset isinstance ord repr
any all divmod Exception ValueError TypeError KeyError IndexError LookupError ZeroDivisionError ArithmeticError
OverflowError RuntimeError NotImplementedError AttributeError StopIteration
""".split())

ALLOWED_METHODS = set("""
append clear copy count endswith extend find get index insert isalnum isalpha isdigit islower isspace isupper items join
keys ljust lower lstrip partition pop remove replace reverse rfind rjust rpartition rsplit rstrip setdefault split
splitlines startswith strip update upper values zfill bit_length
""".split())

FORBIDDEN_WORDS = re.compile(r"""\b(?:
type|typing|typing_extensions|enum|Enum|IntEnum|StrEnum|Flag|IntFlag|Generic|Protocol|ABC|ABCMeta|namedtuple|NamedTuple
|TypedDict|TYPE_CHECKING|abstractmethod)\b|dataclass|overload|contextmanager""", re.VERBOSE)

FORBIDDEN_NAMES = set("""
register mro elements open input version_info with_traceback add_note attrgetter breakpoint builtins compile copyright
credits delattr dir eval exec exit gc getattr globals hasattr help id importlib license locals methodcaller os quit
setattr super type vars sys
""".split())

ALLOWED_FORMS = (
    ast.Module, ast.ImportFrom, ast.alias, ast.FunctionDef, ast.arguments, ast.arg, ast.ClassDef,
    ast.Assign, ast.If, ast.While, ast.For, ast.Return, ast.Break, ast.Continue, ast.Pass, ast.Expr,
    ast.Name, ast.Constant, ast.List, ast.Tuple, ast.Dict, ast.BinOp, ast.UnaryOp, ast.BoolOp, ast.Compare, ast.IfExp,
    ast.Call, ast.Attribute, ast.Subscript, ast.Slice, ast.ListComp, ast.comprehension, ast.expr_context,
    ast.operator, ast.unaryop, ast.boolop, ast.cmpop,
)


def files():
    return sorted(PACKAGE.glob("*.py"))


def forms_of(path):
    return ast.walk(ast.parse(path.read_text(encoding="utf-8")))


def bound_names(tree):
    """All parameters and locals."""
    for form in ast.walk(tree):
        if isinstance(form, ast.arg):
            yield form.arg
        if isinstance(form, ast.Name) and isinstance(form.ctx, ast.Store):
            yield form.id


class Text(unittest.TestCase):
    def test_only_python_files_lie_in_the_package(self):
        names = [path.name for path in PACKAGE.iterdir() if path.name != "__pycache__"]
        self.assertIn("__init__.py", names)
        for name in names:
            self.assertRegex(name, r"^([a-z][a-z0-9_]*|__init__|__main__)\.py$")

    def test_sizes_and_signs(self):
        for path in files():
            rows = path.read_text(encoding="utf-8").split("\n")
            self.assertLessEqual(len(rows), 399, path.name)
            for row in rows:
                self.assertRegex(row, r"^[ -~]{0,120}$", path.name)

    def test_words(self):
        for path in files():
            self.assertIsNone(FORBIDDEN_WORDS.search(path.read_text(encoding="utf-8")), path.name)


class Forms(unittest.TestCase):
    def test_only_allowed_forms(self):
        for path in files():
            for form in forms_of(path):
                self.assertIsInstance(form, ALLOWED_FORMS, path.name)
                self.assertNotIsInstance(form, (ast.Div, ast.MatMult), path.name)
                if isinstance(form, ast.Constant):
                    self.assertIsInstance(form.value, (int, str, bool, type(None)), path.name)
                if isinstance(form, ast.Assign):
                    self.assertEqual(len(form.targets), 1, path.name)
                if isinstance(form, (ast.For, ast.While)):
                    self.assertEqual(form.orelse, [], path.name)

    def test_only_calls_stand_by_themselves(self):
        for path in files():
            tree = ast.parse(path.read_text(encoding="utf-8"))
            for form in ast.walk(tree):
                if isinstance(form, ast.Expr) and form != tree.body[0]:
                    self.assertIsInstance(form.value, ast.Call, path.name)

    def test_functions(self):
        for path in files():
            for form in forms_of(path):
                if isinstance(form, ast.FunctionDef):
                    self.assertLessEqual(form.end_lineno - form.lineno + 1, 40, form.name)
                    self.assertEqual(form.decorator_list, [], form.name)
                    self.assertIsNone(form.args.vararg or form.args.kwarg, form.name)
                    self.assertEqual(form.args.kwonlyargs + form.args.posonlyargs, [], form.name)

    def test_imports(self):
        for path in files():
            for form in forms_of(path):
                if isinstance(form, ast.ImportFrom):
                    self.assertEqual(form.level, 0)
                    self.assertTrue(form.module.startswith("surelinks."), form.module)
                    source = PACKAGE / (form.module.split(".")[1] + ".py")
                    self.assertTrue(source.exists(), form.module)
                    self.assertNotIn("*", [alias.name for alias in form.names])

    def test_no_two_files_draw_from_one_another(self):
        drawn = {}
        for path in files():
            imports = [form for form in forms_of(path) if isinstance(form, ast.ImportFrom)]
            drawn[path.stem] = {form.module.split(".")[1] for form in imports}
        while drawn:
            free = [name for name, sources in drawn.items() if not sources & set(drawn)]
            self.assertNotEqual(free, [], drawn)
            for name in free:
                del drawn[name]

    def test_names(self):
        for path in files():
            tree = ast.parse(path.read_text(encoding="utf-8"))
            tops = [form for form in tree.body if isinstance(form, ast.ImportFrom)]
            taken = {alias.name for form in tops for alias in form.names}
            taken |= {form.name for form in tree.body if isinstance(form, ast.ClassDef)}
            for name in bound_names(tree):
                self.assertFalse(name.startswith("_"), name)
                self.assertNotIn(name, taken, path.name)
                self.assertFalse(hasattr(builtins, name), name)
                self.assertNotIn(name, FORBIDDEN_NAMES, path.name)

    def test_names_of_python_itself(self):
        for path in files():
            for form in forms_of(path):
                if isinstance(form, ast.Name) and hasattr(builtins, form.id):
                    self.assertIn(form.id, ALLOWED_NAMES, path.name)

    def test_methods(self):
        own = set()
        called = set()
        for path in files():
            for form in forms_of(path):
                if isinstance(form, ast.ClassDef):
                    own |= {method.name for method in form.body if isinstance(method, ast.FunctionDef)}
                if isinstance(form, ast.Call) and isinstance(form.func, ast.Attribute):
                    called.add(form.func.attr)
        self.assertEqual(called - own - ALLOWED_METHODS, set())

    def test_names_of_methods_are_free(self):
        taken = set(dir(str) + dir(int) + dir(list) + dir(dict) + dir(set) + dir(bytes)) - {"__init__"}
        for path in files():
            for form in forms_of(path):
                if isinstance(form, ast.ClassDef):
                    names = [method.name for method in form.body if isinstance(method, ast.FunctionDef)]
                    self.assertEqual(len(names), len(form.body), form.name)
                    self.assertEqual(len(set(names)), len(names), form.name)
                    self.assertEqual(set(names) & taken, set(), form.name)

    def test_names_of_a_file_are_bound_once(self):
        for path in files():
            names = []
            for form in ast.parse(path.read_text(encoding="utf-8")).body:
                if isinstance(form, (ast.FunctionDef, ast.ClassDef)):
                    names.append(form.name)
                if isinstance(form, ast.ImportFrom):
                    names.extend([alias.name for alias in form.names])
                if isinstance(form, ast.Assign):
                    names.extend([target.id for target in form.targets])
                    self.assertNotIsInstance(form.value, (ast.List, ast.Dict, ast.ListComp), path.name)
            self.assertEqual(len(set(names)), len(names), path.name)

    def test_classes_stand_at_the_top_and_functions_there_or_in_them(self):
        for path in files():
            tree = ast.parse(path.read_text(encoding="utf-8"))
            tops = tree.body + [form for top in tree.body if isinstance(top, ast.ClassDef) for form in top.body]
            for form in ast.walk(tree):
                if isinstance(form, (ast.FunctionDef, ast.ClassDef)):
                    self.assertIn(form, tops, form.name)

    def test_no_annotations(self):
        for path in files():
            for form in forms_of(path):
                if isinstance(form, ast.arg):
                    self.assertIsNone(form.annotation, path.name)
                if isinstance(form, ast.FunctionDef):
                    self.assertIsNone(form.returns, form.name)

    def test_is_stands_beside_none_alone(self):
        for path in files():
            for form in forms_of(path):
                if isinstance(form, ast.Compare) and isinstance(form.ops[0], (ast.Is, ast.IsNot)):
                    self.assertEqual(ast.unparse(form.comparators[0]), "None", path.name)

    def test_ranges_are_walked_at_once(self):
        for path in files():
            walked = [form.iter for form in forms_of(path) if isinstance(form, (ast.For, ast.comprehension))]
            walked = [ast.unparse(form) for form in walked]
            for form in forms_of(path):
                if isinstance(form, ast.Call) and ast.unparse(form.func) in ("range", "zip", "enumerate", "reversed"):
                    self.assertIn(ast.unparse(form), walked, path.name)

    def test_no_powers_and_no_sign_for_parts_in_a_text(self):
        for path in files():
            for form in forms_of(path):
                self.assertNotIsInstance(form, ast.Pow, path.name)
                if isinstance(form, ast.Constant) and isinstance(form.value, str):
                    self.assertNotIn("%", form.value, path.name)

    def test_the_interface_stands_in_its_own_file_alone(self):
        found = []
        for path in files():
            for form in ast.parse(path.read_text(encoding="utf-8")).body:
                if isinstance(form, ast.FunctionDef) and form.name == "answers":
                    found.append((path.name, ast.unparse(form.args)))
        self.assertEqual(found, [("links.py", "calls")])

    def test_no_name_is_a_method_and_a_value(self):
        methods = set()
        values = set()
        for path in files():
            for form in forms_of(path):
                if isinstance(form, ast.ClassDef):
                    methods |= {method.name for method in form.body if isinstance(method, ast.FunctionDef)}
                if isinstance(form, ast.Attribute) and isinstance(form.ctx, ast.Store):
                    values.add(form.attr)
        self.assertEqual(methods & values, set())
        self.assertEqual(values & set(dir(list) + dir(dict) + dir(int) + dir(str) + dir(bytes)), set())


if __name__ == "__main__":
    unittest.main()
