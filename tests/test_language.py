"""The form of the package: rules of LANGUAGE.md that can be read off the files."""

import ast
import builtins
import re
import unittest
from pathlib import Path

ROOT = Path(__file__).resolve().parent.parent
PACKAGE = ROOT / 'stackeffect'
BARRED_WORDS = re.compile(
    r'\b(type|typing|typing_extensions|enum|Enum|IntEnum|StrEnum|Flag|IntFlag|Generic|Protocol|ABC|ABCMeta|namedtuple'
    r'|NamedTuple|TypedDict|TYPE_CHECKING|abstractmethod)\b|dataclass|overload|contextmanager')
SPECIAL_METHODS = ['__init__', '__eq__', '__repr__', '__str__', '__len__', '__enter__', '__exit__', '__call__',
                   '__iter__']
BARRED_NODES = (ast.Global, ast.AsyncFunctionDef, ast.Await, ast.Div, ast.Import)


def sources():
    return [(path, path.read_text()) for path in sorted(PACKAGE.glob('*.py'))]


def nodes(kinds):
    return [(path.name, node) for path, text in sources() for node in ast.walk(ast.parse(text))
            if isinstance(node, kinds)]


class TestLanguage(unittest.TestCase):
    def test_files(self):
        for path in PACKAGE.iterdir():
            if path.name != '__pycache__':
                self.assertRegex(path.name, r'^(__init__|[a-z][a-z0-9_]*)\.py$')

    def test_sizes_characters_and_words(self):
        for path, text in sources():
            with self.subTest(path.name):
                self.assertLessEqual(len(text.splitlines()), 400)
                self.assertLessEqual(max(map(len, text.splitlines())), 120)
                self.assertRegex(text, r'\A[ -~\n]*\Z')
                self.assertIsNone(BARRED_WORDS.search(text))

    def test_functions_are_short(self):
        for name, node in nodes(ast.FunctionDef):
            with self.subTest(name, function=node.name):
                self.assertLessEqual(node.end_lineno - node.lineno + 1, 40)

    def test_imports_come_from_the_package(self):
        for name, node in nodes(ast.ImportFrom):
            with self.subTest(name):
                self.assertRegex(node.module, r'^stackeffect\.[a-z]+$')
                self.assertEqual(node.level, 0)

    def test_names(self):
        for name, node in nodes((ast.FunctionDef, ast.ClassDef)):
            self.assertTrue(node.name in SPECIAL_METHODS or not node.name.startswith('_'), (name, node.name))
        for name, node in nodes(ast.Name):
            self.assertFalse(node.id.startswith('_'), (name, node.id))

    def test_strings_and_powers(self):
        for name, node in nodes(ast.Constant):
            self.assertFalse(isinstance(node.value, str) and '%' in node.value, (name, node.lineno))
        for name, node in nodes(ast.BinOp):
            if isinstance(node.op, ast.Pow):
                self.assertIsInstance(node.right, ast.Constant, (name, node.lineno))

    def test_no_generator_expressions_beside_a_class_with_its_own_equality(self):
        self.assertEqual([(name, node.lineno) for name, node in nodes(ast.GeneratorExp)], [])

    def test_local_names(self):
        for path, text in sources():
            tree = ast.parse(text)
            classes = [node.name for node in tree.body if isinstance(node, ast.ClassDef)]
            imports = [alias.name for node in tree.body if isinstance(node, ast.ImportFrom) for alias in node.names]
            taken = {*classes, *imports, *dir(builtins)}
            names = {node.arg for node in ast.walk(tree) if isinstance(node, ast.arg)}
            names |= {node.id for node in ast.walk(tree) if isinstance(node, ast.Name)
                      and isinstance(node.ctx, ast.Store)}
            with self.subTest(path.name):
                self.assertEqual(names & taken, set())

    def test_each_name_is_bound_once_in_a_module(self):
        for path, text in sources():
            names = []
            for node in ast.parse(text).body:
                if isinstance(node, ast.ImportFrom):
                    names += [alias.name for alias in node.names]
                elif isinstance(node, ast.Assign):
                    names += [target.id for target in node.targets]
                elif isinstance(node, (ast.FunctionDef, ast.ClassDef)):
                    names.append(node.name)
                else:
                    self.assertIsInstance(node, ast.Expr)
            with self.subTest(path.name):
                self.assertEqual(sorted(names), sorted(set(names)))

    def is_property(self, function):
        signs = [ast.unparse(decorator) for decorator in function.decorator_list]
        return any(sign == 'property' or sign.endswith('.setter') for sign in signs)

    def test_no_name_is_both_a_method_and_an_attribute(self):
        methods = {part.name for name, node in nodes(ast.ClassDef) for part in node.body
                   if isinstance(part, ast.FunctionDef) and not self.is_property(part)}
        attributes = {node.attr for name, node in nodes(ast.Attribute) if isinstance(node.ctx, ast.Store)}
        self.assertEqual(methods & attributes, set())

    def test_statements(self):
        self.assertEqual([(name, node.lineno) for name, node in nodes(BARRED_NODES)], [])
        for name, node in nodes(ast.Constant):
            self.assertNotIsInstance(node.value, float)
        for name, node in nodes(ast.Compare):
            for sign, value in zip(node.ops, node.comparators):
                if isinstance(sign, (ast.Is, ast.IsNot)):
                    self.assertIn(ast.unparse(value), ['None', 'True', 'False'])


if __name__ == '__main__':
    unittest.main()
