"""The form of the package: its language, as far as this can be checked simply, and its interface."""

import ast
import builtins
import pathlib
import unittest

PACKAGE = pathlib.Path(__file__).resolve().parent.parent / "unnumbered"
FILES = sorted(PACKAGE.rglob("*.py"))

BUILTINS = set(
    "len range enumerate zip min max sum abs sorted reversed int str bool list tuple dict set isinstance ord repr "
    "any all divmod pow iter next map Exception ValueError TypeError KeyError IndexError LookupError "
    "ZeroDivisionError ArithmeticError OverflowError RuntimeError NotImplementedError AttributeError "
    "NotImplemented property staticmethod classmethod super".split()
)
METHODS = set(
    "append clear copy count endswith extend find get index insert isalnum isalpha isdigit islower isspace isupper "
    "items join keys ljust lower lstrip partition pop remove replace reverse rfind rjust rpartition rsplit rstrip "
    "setdefault split splitlines startswith strip update upper values zfill bit_length title capitalize swapcase "
    "casefold center expandtabs removeprefix removesuffix rindex isascii isdecimal isnumeric istitle isidentifier "
    "isprintable".split()
)
BARRED_NAMES = {"register", "mro", "elements", "open", "input", "law", "version_info", "format"}
BARRED_NODES = (
    ast.Global, ast.AsyncFunctionDef, ast.AsyncFor, ast.AsyncWith, ast.Await, ast.GeneratorExp, ast.Div, ast.MatMult,
    ast.Import,
)
DECORATORS = {"property", "classmethod", "staticmethod"}

CLASSES = {
    "errors.py": {
        "UnnumberedError": [], "BadSeries": [], "BadProgram": [], "BadMerge": [], "BadRule": [], "BadWish": [],
        "BadEntry": [], "BadWay": [], "Unlike": [], "NoMend": [], "NoMatch": [], "TooMany": [], "NoKey": [],
        "NoAnswer": [],
    },
    "values.py": {
        "Unnumbered": (
            "__init__ __lt__ __le__ __gt__ __ge__ __eq__ __ne__ __add__ __radd__ __sub__ __rsub__ __mul__ __rmul__ "
            "__floordiv__ __rfloordiv__ __mod__ __rmod__ __neg__ __pos__ __abs__ __str__ __repr__"
        ).split(),
        "Told": ["__init__", "__eq__", "__repr__"],
    },
    "series.py": {
        "Series": (
            "__init__ __len__ __iter__ __getitem__ __contains__ __add__ __eq__ __str__ __repr__ numbers marks of read"
        ).split(),
    },
    "programs.py": {"Program": "__init__ kind_of __len__ __str__ __eq__ of".split()},
    "running.py": {"Machine": "__init__ __call__ miss fed outcome probe".split(), "Outcome": ["__init__"]},
    "judging.py": {"Wish": [], "Verdict": "__init__ __bool__ __len__".split()},
    "pieces.py": {"Merge": "__init__ __len__ __str__".split()},
    "mends.py": {"Mending": ["__init__"]},
    "rules.py": {"Rule": "__init__ __str__ __eq__".split()},
    "keyed.py": {
        "Keyed": "__init__ __setitem__ __getitem__ __contains__ __len__ __iter__ worths total".split(),
    },
}
FUNCTIONS = {
    "values.py": "is_number is_entry same least greatest holds agree".split(),
    "running.py": "run walk".split(),
    "judging.py": "wishes is_wished same_situation judge is_judgement".split(),
    "comparing.py": "compare is_comparison".split(),
    "pieces.py": "merged pieces is_cutting".split(),
    "mends.py": "mends mended least_mends harmless".split(),
    "rules.py": "is_safe parting book matches rewritten".split(),
    "keyed.py": "grouped joined run_grouped".split(),
    "sheets.py": "shown sheet series_sheet group_sheet".split(),
}
# The modules of the interface, in its order: each imports only those ahead of it, and helpers.
MODULES = "errors values series programs running judging comparing pieces mends rules keyed sheets".split()


def nodes(path):
    return list(ast.walk(ast.parse(path.read_text(encoding="utf-8"))))


def bound_names(path):
    for node in nodes(path):
        if isinstance(node, (ast.FunctionDef, ast.ClassDef)):
            yield node.name
        elif isinstance(node, ast.arg):
            yield node.arg
        elif isinstance(node, ast.Name) and isinstance(node.ctx, ast.Store):
            yield node.id
        elif isinstance(node, ast.alias):
            yield node.asname or node.name


class Language(unittest.TestCase):
    def test_folder_holds_python_files_alone(self):
        others = [
            path.name for path in PACKAGE.rglob("*")
            if path.is_file() and path.suffix != ".py" and "__pycache__" not in path.parts
        ]
        self.assertEqual(others, [])
        self.assertIn(PACKAGE / "__init__.py", FILES)

    def test_sizes_and_characters(self):
        for path in FILES:
            text = path.read_text(encoding="utf-8")
            lines = text.split("\n")
            self.assertLessEqual(len(lines), 400, path)
            self.assertLessEqual(max(map(len, lines)), 120, path)
            self.assertEqual({c for c in text if c != "\n" and not " " <= c <= "~"}, set(), path)
            for node in nodes(path):
                if isinstance(node, ast.FunctionDef):
                    self.assertLessEqual(node.end_lineno - node.lineno + 1, 40, (path, node.name))

    def test_imports_name_the_file_that_defines(self):
        for path in FILES:
            for node in nodes(path):
                if isinstance(node, ast.ImportFrom):
                    self.assertEqual(node.level, 0, path)
                    folder, _, name = node.module.partition(".")
                    self.assertEqual(folder, "unnumbered", path)
                    source = PACKAGE / f"{name}.py"
                    defined = [part.name for part in nodes(source) if isinstance(part, (ast.FunctionDef, ast.ClassDef))]
                    tables = [part for part in ast.parse(source.read_text()).body if isinstance(part, ast.Assign)]
                    defined += [part.targets[0].id for part in tables]
                    for alias in node.names:
                        self.assertIn(alias.name, defined, path)

    def test_modules_of_the_interface_import_those_above(self):
        for at, name in enumerate(MODULES):
            seen = set()
            fresh = [name]
            while fresh:
                source = PACKAGE / f"{fresh.pop()}.py"
                for node in nodes(source):
                    if isinstance(node, ast.ImportFrom) and node.module not in seen:
                        seen.add(node.module)
                        fresh.append(node.module.partition(".")[2])
            self.assertEqual(seen & {f"unnumbered.{other}" for other in MODULES[at:]}, set(), name)

    def test_no_variable_has_the_name_of_an_import_or_a_class(self):
        for path in FILES:
            tree = ast.parse(path.read_text(encoding="utf-8"))
            fixed = {alias.name for node in tree.body if isinstance(node, ast.ImportFrom) for alias in node.names}
            fixed |= {node.name for node in tree.body if isinstance(node, ast.ClassDef)}
            for node in ast.walk(tree):
                name = node.arg if isinstance(node, ast.arg) else getattr(node, "id", None)
                if isinstance(node, ast.arg) or isinstance(node, ast.Name) and isinstance(node.ctx, ast.Store):
                    self.assertNotIn(name, fixed, (path, node.lineno))

    def test_no_name_is_a_method_and_an_attribute(self):
        methods, attributes, generators, functions = set(), set(), [], []
        for path in FILES:
            for node in nodes(path):
                if isinstance(node, ast.ClassDef):
                    methods |= {part.name for part in node.body if isinstance(part, ast.FunctionDef)}
                if isinstance(node, ast.Attribute) and isinstance(node.ctx, ast.Store):
                    attributes.add(node.attr)
                if isinstance(node, ast.FunctionDef):
                    functions.append(node.name)
                    if any(isinstance(part, (ast.Yield, ast.YieldFrom)) for part in ast.walk(node)):
                        generators.append(node.name)
        self.assertEqual(methods & attributes, set())
        for name in generators:
            self.assertEqual(functions.count(name), 1, name)

    def test_no_barred_statements(self):
        for path in FILES:
            for node in nodes(path):
                self.assertNotIsInstance(node, BARRED_NODES, (path, getattr(node, "lineno", 0)))
                for decorator in getattr(node, "decorator_list", []):
                    if isinstance(decorator, ast.Name):
                        self.assertIn(decorator.id, DECORATORS, path)
                if isinstance(node, ast.Constant):
                    self.assertNotIsInstance(node.value, float, path)
                    self.assertNotIn("%" if isinstance(node.value, str) else None, [*str(node.value)], path)

    def test_names(self):
        of_python = set(dir(builtins))
        for path in FILES:
            for name in bound_names(path):
                self.assertNotIn(name, of_python | BARRED_NAMES, path)
                dunder = name.startswith("__") and name.endswith("__")
                self.assertTrue(dunder or not name.startswith("__"), (path, name))
            for node in nodes(path):
                if isinstance(node, ast.Name) and node.id in of_python:
                    self.assertIn(node.id, BUILTINS, (path, node.lineno))

    def test_methods_are_own_or_listed(self):
        own = {node.name for path in FILES for node in nodes(path) if isinstance(node, ast.FunctionDef)}
        for path in FILES:
            for node in nodes(path):
                if isinstance(node, ast.Call) and isinstance(node.func, ast.Attribute):
                    self.assertIn(node.func.attr, own | METHODS, (path, node.lineno))

    def test_is_stands_with_none_true_and_false(self):
        for path in FILES:
            for node in nodes(path):
                if isinstance(node, ast.Compare) and isinstance(node.ops[0], (ast.Is, ast.IsNot)):
                    self.assertIsInstance(node.comparators[0], ast.Constant, (path, node.lineno))


class Interface(unittest.TestCase):
    def test_classes_and_their_own_methods(self):
        for name, classes in CLASSES.items():
            found = {node.name: node for node in nodes(PACKAGE / name) if isinstance(node, ast.ClassDef)}
            for class_name, methods in classes.items():
                own = [part.name for part in found[class_name].body if isinstance(part, ast.FunctionDef)]
                for method in methods:
                    self.assertIn(method, own, class_name)

    def test_functions(self):
        for name, functions in FUNCTIONS.items():
            tree = ast.parse((PACKAGE / name).read_text(encoding="utf-8"))
            found = [node.name for node in tree.body if isinstance(node, ast.FunctionDef)]
            for function in functions:
                self.assertIn(function, found, name)


if __name__ == "__main__":
    unittest.main()
