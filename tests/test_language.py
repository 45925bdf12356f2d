"""The rules for the package's code that can be seen file by file."""

import ast
import pathlib
import re
import unittest

PACKAGE = pathlib.Path(__file__).resolve().parent.parent / "growjoin"
BARRED_WORDS = (
    "type typing typing_extensions enum Enum IntEnum StrEnum Flag IntFlag Generic Protocol ABC ABCMeta namedtuple "
    "NamedTuple TypedDict TYPE_CHECKING abstractmethod"
).split()
BARRED_NAMES = "register mro elements open input version_info with_traceback add_note print chr eval exec".split()


def files():
    return sorted(path for path in PACKAGE.iterdir() if path.name != "__pycache__")


def trees():
    return [(path, ast.parse(path.read_text("utf-8"))) for path in files()]


class Language(unittest.TestCase):
    def test_files(self):
        for path in files():
            self.assertRegex(path.name, r"^(__init__|[a-z][a-z0-9_]*)\.py$")
            text = path.read_text("utf-8")
            self.assertRegex(text, r"^[ -~\n]*$")
            lines = text.split("\n")
            self.assertLessEqual(len(lines), 400)
            self.assertLessEqual(max(len(line) for line in lines), 120)

    def test_words(self):
        for path in files():
            words = set(re.findall(r"\w+", path.read_text("utf-8")))
            self.assertEqual(words & set(BARRED_WORDS + BARRED_NAMES), set(), path)

    def test_functions_are_short(self):
        for path, tree in trees():
            for node in ast.walk(tree):
                if isinstance(node, ast.FunctionDef):
                    self.assertLessEqual(node.end_lineno - node.lineno + 1, 40, node.name)

    def test_imports_name_the_package_and_lead_round_nowhere(self):
        above = {}
        for path, tree in trees():
            above[path.stem] = set()
            for node in ast.walk(tree):
                self.assertNotIsInstance(node, ast.Import)
                if isinstance(node, ast.ImportFrom):
                    self.assertEqual((node.level, node.module.split(".")[0]), (0, "growjoin"))
                    above[path.stem].add(node.module.split(".")[1])
        while above:
            free = [name for name in above if not above[name] & set(above)]
            self.assertTrue(free, above)
            for name in free:
                del above[name]

    def test_names(self):
        for path, tree in trees():
            for node in ast.walk(tree):
                for name in [getattr(node, "id", ""), getattr(node, "arg", ""), getattr(node, "attr", ""),
                             getattr(node, "name", "")]:
                    if name and name != "__init__":
                        self.assertFalse(name.startswith("_"), (path, name))

    def test_values(self):
        for path, tree in trees():
            for node in ast.walk(tree):
                self.assertNotIsInstance(node, (ast.Div, ast.Global, ast.SetComp, ast.AsyncFunctionDef))
                if isinstance(node, ast.Constant):
                    self.assertNotIsInstance(node.value, (float, complex))
                    self.assertNotIn("%", str(node.value))
                if isinstance(node, ast.Compare) and isinstance(node.ops[0], (ast.Is, ast.IsNot)):
                    self.assertIn(getattr(node.comparators[0], "value", "no"), (None, True, False))

    def test_no_name_is_a_method_and_an_attribute(self):
        methods, attributes = set(), set()
        for path, tree in trees():
            for node in ast.walk(tree):
                if isinstance(node, ast.ClassDef):
                    methods |= {inner.name for inner in node.body if isinstance(inner, ast.FunctionDef)}
                if isinstance(node, ast.Attribute) and isinstance(node.ctx, ast.Store):
                    self.assertIsInstance(node.value, ast.Name)
                    attributes.add(node.attr)
        self.assertEqual(methods & attributes, set())


if __name__ == "__main__":
    unittest.main()
