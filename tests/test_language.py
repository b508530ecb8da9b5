"""The package keeps to the part of Python that ../shared/LANGUAGE.md tells; and, of point [1],
it draws on nothing but itself: no clock, no chance, no files."""

import ast
import pathlib
import unittest

from language import PACKAGE, faults, methods_and_values

FOLDER = pathlib.Path(__file__).resolve().parent.parent / PACKAGE
FILES = sorted(FOLDER.glob("*.py"))


def drawn_from(text):
    return [node.module for node in ast.walk(ast.parse(text)) if isinstance(node, ast.ImportFrom)]


class TestPackage(unittest.TestCase):
    def test_nothing_but_files_of_the_program_lies_in_it(self):
        found = sorted(path.name for path in FOLDER.iterdir() if path.name != "__pycache__")
        self.assertEqual(found, [path.name for path in FILES])
        self.assertIn("__init__.py", found)
        for name in found:
            self.assertRegex(name, r"^(__init__|__main__|[a-z][a-z0-9_]*)\.py$")

    def test_each_file_keeps_to_the_language(self):
        for path in FILES:
            with self.subTest(path.name):
                self.assertEqual(faults(path.read_text(encoding="utf-8")), [])

    def test_names_are_drawn_from_the_file_that_defines_them(self):
        for path in FILES:
            for node in ast.parse(path.read_text(encoding="utf-8")).body:
                if isinstance(node, ast.ImportFrom):
                    source = FOLDER / (node.module.split(".")[1] + ".py")
                    defined = self.names_of(ast.parse(source.read_text(encoding="utf-8")))
                    for alias in node.names:
                        self.assertIn(alias.name, defined, (path.name, node.module))

    def names_of(self, tree):
        names = [node.name for node in tree.body if isinstance(node, (ast.FunctionDef, ast.ClassDef))]
        return names + [node.targets[0].id for node in tree.body if isinstance(node, ast.Assign)]

    def test_no_two_files_draw_from_one_another(self):
        drawn = {f"{PACKAGE}.{path.stem}": drawn_from(path.read_text(encoding="utf-8")) for path in FILES}
        settled = []
        while len(settled) < len(drawn):
            ready = [name for name in drawn if name not in settled and set(drawn[name]) <= set(settled)]
            self.assertTrue(ready, f"in a ring: {sorted(set(drawn) - set(settled))}")
            settled += ready

    def test_no_name_is_a_method_here_and_a_value_there(self):
        methods, values = set(), set()
        for path in FILES:
            more_methods, more_values = methods_and_values(path.read_text(encoding="utf-8"))
            methods |= more_methods
            values |= more_values
        self.assertIn("within", methods)
        self.assertIn("row", values)
        self.assertEqual(methods & values, set())


class TestFaultsAreSeen(unittest.TestCase):
    """A check that sees nothing would pass every file."""

    WRONG = [
        ("L2", "import math\n"),
        ("L2", "from time import time\n"),
        ("L2", "from .errors import NoEnd\n"),
        ("L2", "from scoreflow.errors import *\n"),
        ("L3", "KEPT = list()\n"),
        ("L3", "for k in range(3):\n    pass\n"),
        ("L4", "def run(*rows):\n    pass\n"),
        ("L5", "class Kept:\n    held = 1\n"),
        ("L6", "def run(a):\n    assert a\n"),
        ("L6", "def run(a):\n    b = c = a\n"),
        ("L6", "def run(a):\n    'words'\n"),
        ("L7", "def run(a):\n    return a / 2\n"),
        ("L7", "HALF = 0.5\n"),
        ("L7", "def run(a):\n    return {k: 1 for k in a}\n"),
        ("L8", "def run(a):\n    return map(len, a)\n"),
        ("L10", "X = '" + "a" * 120 + "'\n"),
        ("L10", "def run(a):\n" + "    a += 1\n" * 40),
        ("L12", "def _run(a):\n    pass\n"),
        ("L14", "# \u00e4\n"),
        ("L14", "def run(a):\n\treturn a\n"),
        ("L15", "def run(sum):\n    return sum\n"),
        ("L15", "X = 1\nX = 2\n"),
        ("L17", "# of this type\n"),
        ("L17", "def run(a):\n    return open(a)\n"),
        ("L19", "def run(a):\n    try:\n        a()\n    except Exception:\n        pass\n"),
        ("L20", "def run(a, b):\n    return a is b\n"),
        ("L21", "def run(a: int):\n    return a\n"),
        ("L23", "def run(a):\n    return reversed(a)\n"),
        ("L23", "def run(a, b):\n    a.extend(zip(a, b))\n"),
        ("L23", "def run(a):\n    b = a.items()\n    return list(b)\n"),
        ("L25", "def run(a):\n    a.sort()\n"),
        ("L27", "def run(a):\n    return 2 ** a\n"),
        ("L27", "X = 'a % b'\n"),
    ]

    def test_wrong_files(self):
        for rule, text in self.WRONG:
            with self.subTest(text):
                self.assertTrue(any(rule in told for told, line in faults(text)), (rule, faults(text)))

    def test_right_file(self):
        text = '"""A file."""\n\nfrom scoreflow.errors import NoEnd\n\nX = (1, "a")\n\n\n'
        text += "def run(rows):\n    kept = [row[0] for row in rows if row]\n"
        text += "    if not kept:\n        raise NoEnd(\"no rows\")\n    return sorted(kept)\n"
        self.assertEqual(faults(text), [])


if __name__ == "__main__":
    unittest.main()
