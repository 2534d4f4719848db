"""The sizes and signs that ../shared/LANGUAGE.md lets (L1, L2, L8, L10, L14 to L17), as far as they are easily seen."""

import ast
import builtins
import os
import re
import unittest

FOLDER = os.path.join(os.path.dirname(os.path.dirname(os.path.abspath(__file__))), "pastless")
ALLOWED = """len range enumerate zip min max sum abs sorted reversed int str bool bytes list tuple dict set frozenset isinstance ord repr
any all divmod pow getattr hasattr setattr iter next map super property staticmethod classmethod NotImplemented Exception ValueError
TypeError KeyError IndexError LookupError ZeroDivisionError ArithmeticError OverflowError RuntimeError NotImplementedError
AttributeError StopIteration object float type""".split()
BARRED = """typing typing_extensions enum Enum IntEnum StrEnum Flag IntFlag Generic Protocol ABC ABCMeta namedtuple NamedTuple
TypedDict TYPE_CHECKING abstractmethod register mro elements open input law version_info""".split()


def sources():
    """The names and the texts of the files of the package."""
    found = []
    for name in sorted(os.listdir(FOLDER)):
        if name != "__pycache__":
            with open(os.path.join(FOLDER, name), encoding="utf-8") as file:
                found.append((name, file.read()))
    return found


class Style(unittest.TestCase):

    def test_files(self):
        for name, text in sources():
            self.assertRegex(name, r"^[a-z_]+\.py$")
            lines = text.split("\n")
            self.assertLessEqual(len(lines), 399, name)
            self.assertLessEqual(max(map(len, lines)), 120, name)
            self.assertTrue(all(" " <= sign <= "~" or sign == "\n" for sign in text), name)

    def test_functions(self):
        for name, text in sources():
            for node in ast.walk(ast.parse(text)):
                if isinstance(node, ast.FunctionDef):
                    self.assertLessEqual(node.end_lineno - node.lineno + 1, 40, f"{name} {node.name}")
                self.assertNotIsInstance(node, (ast.AsyncFunctionDef, ast.Await), name)

    def test_words(self):
        for name, text in sources():
            for node in ast.walk(ast.parse(text)):
                words = [getattr(node, field) for field in ("id", "name", "arg", "attr", "module")
                         if isinstance(getattr(node, field, None), str)]
                for word in words:
                    self.assertNotIn(word, BARRED, name)
                if isinstance(node, ast.Name) and node.id in dir(builtins):
                    self.assertIn(node.id, ALLOWED, name)
                if isinstance(node, ast.Constant) and isinstance(node.value, float):
                    self.fail(name)

    def test_nothing_is_called_like_a_builtin(self):
        barred = dir(builtins)
        for name, text in sources():
            for node in ast.walk(ast.parse(text)):
                if isinstance(node, ast.Name) and isinstance(node.ctx, ast.Store):
                    self.assertNotIn(node.id, barred, name)
                if isinstance(node, ast.arg):
                    self.assertNotIn(node.arg, barred, name)

    def test_nothing_is_called_like_an_import(self):
        for name, text in sources():
            nodes = list(ast.walk(ast.parse(text)))
            taken = {alias.name for node in nodes if isinstance(node, ast.ImportFrom) for alias in node.names}
            taken |= {node.name for node in nodes if isinstance(node, ast.ClassDef)}
            for node in nodes:
                if isinstance(node, ast.Name) and isinstance(node.ctx, ast.Store):
                    self.assertNotIn(node.id, taken, name)
                if isinstance(node, ast.arg):
                    self.assertNotIn(node.arg, taken, name)

    def test_a_name_is_a_method_or_an_attribute(self):
        methods, attributes = set(), set()
        for _, text in sources():
            for node in ast.walk(ast.parse(text)):
                if isinstance(node, ast.ClassDef):
                    methods |= {part.name for part in node.body if isinstance(part, ast.FunctionDef)}
                if isinstance(node, ast.Attribute) and isinstance(node.ctx, ast.Store):
                    attributes.add(node.attr)
        self.assertEqual(methods & attributes, set())

    def test_imports(self):
        names = [name[:-3] for name, _ in sources()]
        imports = {}
        for name, text in sources():
            imports[name[:-3]] = found = []
            for node in ast.walk(ast.parse(text)):
                self.assertNotIsInstance(node, ast.Import, name)
                if isinstance(node, ast.ImportFrom) and node.module not in ("math", "heapq", "itertools", "collections"):
                    self.assertTrue(re.match(r"pastless\.[a-z]+$", node.module) and node.module[9:] in names, name)
                    found.append(node.module[9:])
        ended = set()
        while len(ended) < len(names):
            free = {name for name in names if name not in ended and ended.issuperset(imports[name])}
            self.assertTrue(free, "files import from each other")
            ended |= free


if __name__ == "__main__":
    unittest.main()
