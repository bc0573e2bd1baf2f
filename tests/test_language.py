"""The package keeps to its small part of Python, as far as that is seen from its files."""

import ast
import os
import re
import unittest

import whykept

TOP = os.path.dirname(os.path.abspath(whykept.__file__))
BUILTINS = (
    "len range enumerate zip min max sum abs sorted reversed int str bool list tuple dict set frozenset isinstance ord "
    "repr any all divmod Exception ValueError TypeError KeyError IndexError LookupError ZeroDivisionError "
    "ArithmeticError OverflowError RuntimeError NotImplementedError AttributeError StopIteration"
).split()
METHODS = (
    "append clear copy count endswith extend find get index insert isalnum isalpha isdigit islower isspace isupper "
    "items join keys ljust lower lstrip partition pop remove replace reverse rfind rjust rpartition rsplit rstrip "
    "setdefault split splitlines startswith strip update upper values zfill bit_length"
).split()
# These words stand nowhere, remarks and texts too.
WORDS = (
    "type typing typing_extensions enum Enum IntEnum StrEnum Flag IntFlag Generic Protocol ABC ABCMeta namedtuple "
    "NamedTuple TypedDict TYPE_CHECKING abstractmethod dataclass overload contextmanager"
).split()
NOT_NAMES = (
    "register mro elements open input version_info with_traceback add_note attrgetter breakpoint builtins compile "
    "copyright credits delattr dir eval exec exit gc getattr globals hasattr help id importlib license locals "
    "methodcaller os quit setattr super type vars sys format format_map chr print hash next map iter filter object "
    "bytes float slice callable property"
).split()
NODES = (
    "Module FunctionDef arguments arg ClassDef Return Assign AugAssign For While If Raise Try ExceptHandler Import "
    "ImportFrom alias Expr Pass Break Continue BoolOp BinOp UnaryOp Lambda IfExp Dict Set ListComp comprehension Compare "
    "Call JoinedStr FormattedValue Constant Attribute Subscript Name List Tuple Slice Load Store And Or Not USub Invert "
    "Add Sub Mult FloorDiv Mod Pow LShift RShift BitOr BitXor BitAnd Eq NotEq Lt LtE Gt GtE Is IsNot In NotIn keyword"
).split()
TOP_NODES = (ast.ImportFrom, ast.FunctionDef, ast.ClassDef, ast.Assign)


def files():
    """Each file of the package: its name, its text and its tree."""
    for name in sorted(os.listdir(TOP)):
        if name != "__pycache__":
            with open(os.path.join(TOP, name), encoding="utf-8") as file:
                text = file.read()
            yield name, text, ast.parse(text)


def own_methods_and_values():
    """The names of all methods and of all values of the package's classes."""
    methods, stored = set(), set()
    for name, text, tree in files():
        for node in ast.walk(tree):
            if isinstance(node, ast.ClassDef):
                methods |= {item.name for item in node.body if isinstance(item, ast.FunctionDef)}
            if isinstance(node, ast.Attribute) and isinstance(node.ctx, ast.Store):
                stored.add(node.attr)
    return methods, stored


def nodes(*kinds):
    """Each piece of the package's code that is of one of these kinds, with where it stands."""
    for name, text, tree in files():
        for node in ast.walk(tree):
            if isinstance(node, kinds):
                yield "%s row %s" % (name, getattr(node, "lineno", 0)), node


class LanguageTest(unittest.TestCase):
    def test_files_and_signs(self):
        for name, text, tree in files():
            with self.subTest(name):
                self.assertRegex(name, r"\A([a-z][a-z0-9_]*|__init__|__main__)\.py\Z")
                self.assertIsNone(re.search(r"[^ -~\n]", text))
                self.assertLessEqual(len(text.splitlines()), 399)
                self.assertLessEqual(max(len(row) for row in text.splitlines()), 120)
                self.assertEqual(set(re.findall(r"\w+", text)) & set(WORDS), set())

    def test_what_stands_at_the_top(self):
        for name, text, tree in files():
            with self.subTest(name):
                names = []
                for node in tree.body[1:] if ast.get_docstring(tree) is not None else tree.body:
                    self.assertIsInstance(node, TOP_NODES)
                    if isinstance(node, ast.Assign):
                        names.append(node.targets[0].id)
                    elif not isinstance(node, ast.ImportFrom):
                        names.append(node.name)
                    else:
                        names += [item.name for item in node.names]
                self.assertEqual(len(names), len(set(names)))

    def test_imports_come_from_the_file_that_defines_the_name_and_in_one_direction(self):
        drawn = {}
        tops = {}
        for name, text, tree in files():
            tops["whykept." + name[:-3]] = {node.name for node in tree.body if hasattr(node, "name")} | {
                node.targets[0].id for node in tree.body if isinstance(node, ast.Assign)}
            drawn["whykept." + name[:-3]] = [node for node in ast.walk(tree) if isinstance(node, ast.ImportFrom)]
        for module, imports in drawn.items():
            for node in imports:
                with self.subTest(module, row=node.lineno):
                    self.assertEqual(node.level, 0)
                    self.assertTrue(all(item.asname is None and item.name in tops[node.module] for item in node.names))
        left = {module: {node.module for node in imports} for module, imports in drawn.items()}
        while left:
            free = [module for module in left if not left[module] & set(left)]
            self.assertTrue(free, "files draw from one another")
            left = {module: imports for module, imports in left.items() if module not in free}

    def test_statements_and_expressions(self):
        for where, node in nodes(ast.AST):
            self.assertIn(node.__class__.__name__, NODES, where)
            if isinstance(node, ast.Assign):
                self.assertEqual(len(node.targets), 1, where)
            if isinstance(node, (ast.For, ast.While)):
                self.assertEqual(node.orelse, [], where)
            if isinstance(node, ast.ListComp):
                self.assertEqual(len(node.generators), 1, where)
                self.assertLessEqual(len(node.generators[0].ifs), 1, where)
            if isinstance(node, ast.Constant):
                self.assertIn(node.value.__class__, (int, str, bool, None.__class__), where)
                self.assertFalse(isinstance(node.value, str) and "%" in node.value, where)
            if isinstance(node, ast.Compare):
                for sign, side in zip(node.ops, node.comparators):
                    if isinstance(sign, (ast.Is, ast.IsNot)):
                        self.assertIn(getattr(side, "value", 0), (None, True, False), where)

    def test_sets(self):
        # Each stands beside a comparison's sign, or straight within sorted or len.
        for name, text, tree in files():
            held = []
            for node in ast.walk(tree):
                if isinstance(node, ast.Compare):
                    held += [node.left] + node.comparators
                elif isinstance(node, ast.Call) and getattr(node.func, "id", "") in ("sorted", "len") and not node.keywords:
                    held += node.args
            for node in ast.walk(tree):
                if isinstance(node, ast.Call) and getattr(node.func, "id", "") in ("set", "frozenset"):
                    self.assertTrue(any(node is item for item in held), "%s row %d" % (name, node.lineno))

    def test_keywords(self):
        for where, node in nodes(ast.Call):
            for keyword in node.keywords:
                self.assertIn(getattr(node.func, "id", ""), ("sorted", "min", "max"), where)
                self.assertEqual(keyword.arg, "key", where)
                self.assertIsInstance(keyword.value, (ast.Lambda, ast.Name), where)

    def test_functions_and_classes(self):
        for where, node in nodes(ast.FunctionDef, ast.ClassDef):
            self.assertEqual(node.decorator_list, [], where)
            self.assertLessEqual(node.end_lineno - node.lineno + 1, 40 if isinstance(node, ast.FunctionDef) else 399, where)
            if isinstance(node, ast.ClassDef):
                self.assertLessEqual(len(node.bases), 1, where)
                self.assertTrue(all(isinstance(item, (ast.FunctionDef, ast.Expr, ast.Pass)) for item in node.body), where)
            else:
                rest = node.args
                self.assertFalse(rest.vararg or rest.kwarg or rest.kwonlyargs or rest.posonlyargs, where)

    def test_names(self):
        for name, text, tree in files():
            known = set(BUILTINS) | {node.name for node in ast.walk(tree) if hasattr(node, "name") and node.name}
            known |= {node.id for node in ast.walk(tree) if isinstance(node, ast.Name) and isinstance(node.ctx, ast.Store)}
            known |= {node.arg for node in ast.walk(tree) if isinstance(node, ast.arg)}
            taken = {node.name for node in tree.body if isinstance(node, ast.ClassDef)} | {
                item.name for node in tree.body if isinstance(node, ast.ImportFrom) for item in node.names}
            for node in ast.walk(tree):
                with self.subTest(name, row=getattr(node, "lineno", 0)):
                    if isinstance(node, ast.Name):
                        self.assertIn(node.id, known)
                    bound = node.arg if isinstance(node, ast.arg) else getattr(node, "id", None)
                    if isinstance(node, ast.arg) or isinstance(getattr(node, "ctx", None), ast.Store) and bound:
                        self.assertRegex(bound, r"\A[A-Za-z][A-Za-z0-9_]*\Z")
                        self.assertNotIn(bound, NOT_NAMES + BUILTINS)
                        self.assertNotIn(bound, taken)

    def test_methods_and_values(self):
        methods, stored = own_methods_and_values()
        self.assertEqual(methods & stored, set())
        self.assertEqual((methods | stored) & set(NOT_NAMES), set())
        for where, node in nodes(ast.Attribute):
            if node.attr != "__init__":
                self.assertIn(node.attr, methods | stored | set(METHODS), where)


if __name__ == "__main__":
    unittest.main()
