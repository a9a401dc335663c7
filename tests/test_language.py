"""The package keeps to the rules of its language, and the check of the rules sees what breaks them."""

import pathlib
import unittest

from language_rules import PACKAGE, faults, import_faults, own_names

FOLDER = pathlib.Path(__file__).resolve().parent.parent / PACKAGE

BROKEN = (
    ("L3", "print(1)\n"),
    ("L4", "def f(*xs):\n    return xs\n"),
    ("L4", "def f(x=[]):\n    return x\n"),
    ("L5", "class A:\n    b = 1\n"),
    ("L6", "def f(x):\n    a = b = x\n    return a\n"),
    ("L6", "def f(x):\n    assert x\n"),
    ("L6", "def f(x):\n    del x[0]\n"),
    ("L7", "A = 1.5\n"),
    ("L7", "def f(x):\n    return x / 2\n"),
    ("L7", "def f(x):\n    return [a for b in x for a in b]\n"),
    ("L7", "def f(x):\n    return f'{x + 1}'\n"),
    ("L8", "def f(x):\n    return map(len, x)\n"),
    ("L10", "def f(x):\n" + "    x = x + 1\n" * 40),
    ("L12", "def f(x):\n    _a = x\n    return _a\n"),
    ("L14", "A = '\u00e4'\n"),
    ("L15", "def f(min):\n    return min\n"),
    ("L15", "A = 1\nA = 2\n"),
    ("L17", "# the type of it\n"),
    ("L17", "def f(x):\n    return x.register()\n"),
    ("L19", "def f(x):\n    try:\n        return x()\n    except Exception:\n        return 0\n"),
    ("L20", "def f(x, y):\n    return x is y\n"),
    ("L21", "def f(x: int):\n    return x\n"),
    ("L22", "def f(x):\n    g = len\n    return g(x)\n"),
    ("L23", "def f(x):\n    return zip(x, x)\n"),
    ("L24", "def f(x):\n    y = set(x)\n    return y\n"),
    ("L25", "def f(x):\n    return x.sort()\n"),
    ("L26", "class A:\n    def __init__(self, x):\n        self.items = x\n"),
    ("L27", "def f(n):\n    return 2 ** n\n"),
)


def package_texts():
    return {path.name: path.read_text(encoding="utf-8") for path in sorted(FOLDER.glob("*.py"))}


class Package(unittest.TestCase):
    def test_each_file_keeps_to_the_rules(self):
        texts = package_texts()
        own = own_names(texts)
        for path, text in texts.items():
            self.assertEqual(faults(path, text, own), [], path)

    def test_imports(self):
        self.assertEqual(import_faults(package_texts()), [])

    def test_nothing_else_lies_in_the_folder(self):
        names = {path.name for path in FOLDER.iterdir()} - {"__pycache__"}
        self.assertEqual(names, set(package_texts()))
        self.assertIn("__init__.py", names)


class TheCheck(unittest.TestCase):
    def test_it_sees_what_breaks_a_rule(self):
        for rule, text in BROKEN:
            found = faults("broken.py", text, own_names({"broken.py": text}))
            self.assertIn(rule, [fault[0] for fault in found], text)

    def test_it_sees_wrong_imports(self):
        row = "from namepaths.{} import {}\n"
        self.assertEqual(import_faults({"__init__.py": "", "a.py": row.format("b", "f"), "b.py": "f = 1\n"}), [])
        for texts in (
                {"a.py": row.format("b", "f") + "g = 1\n", "b.py": row.format("a", "g") + "f = 1\n"},
                {"a.py": row.format("b", "g"), "b.py": "f = 1\n"},
                {"a.py": "from os import path\n"},
                {"__init__.py": row.format("a", "f"), "a.py": row.format("b", "g") + "f = 1\n", "b.py": "g = 1\n"}):
            self.assertNotEqual(import_faults(dict({"__init__.py": ""}, **texts)), [], texts)


if __name__ == "__main__":
    unittest.main()
