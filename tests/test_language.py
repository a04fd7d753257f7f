"""The package keeps to its part of Python; and the looker that says so finds what is outside it."""

import pathlib
import re
import unittest

from language import looked

PACKAGE = pathlib.Path(__file__).resolve().parent.parent / "swellways"
FOUND = {
    "L2": "import os\nfrom os import path\n",
    "L3": "x = len(())\n",
    "L4": "def f(*a):\n    return a\n",
    "L5": "class A:\n    x = 1\n",
    "L6": "def f(a):\n    b = c = a\n    return b\n",
    "L7": "def f(a):\n    return a / 2\n",
    "L8": "def f(a):\n    return map(a, a)\n",
    "L10": "x = 1  # " + "x" * 120 + "\n",
    "L14": "x = 1\t\n",
    "L15": "def f(next):\n    return next\n",
    "L17": "# a type\n",
    "L18": "class A:\n    def f(self):\n        return 1\n\n    def f(self):\n        return 2\n",
    "L19": "def f(a):\n    try:\n        return a()\n    except Exception:\n        return 1\n",
    "L20": "def f(a, b):\n    return a is b\n",
    "L21": "def f(a: int):\n    return a\n",
    "L22": "def f(a):\n    return a.split(sep='x')\n",
    "L23": "def f(a):\n    b = zip(a, a)\n    return b\n",
    "L24": "def f(a):\n    b = set(a)\n    return b\n",
    "L25": "def f(a):\n    a.sort()\n    return a\n",
    "L27": "x = '100%'\n",
}


class Language(unittest.TestCase):
    def texts(self):
        return {path.name: path.read_bytes().decode("ascii") for path in PACKAGE.glob("*.py")}

    def test_the_package(self):
        self.assertEqual(looked("swellways", self.texts()), [])

    def test_only_files_of_plain_names(self):
        for path in PACKAGE.iterdir():
            if path.name != "__pycache__":
                self.assertTrue(path.is_file(), path)
                self.assertTrue(re.fullmatch(r"[a-z][a-z0-9_]*\.py|__init__\.py", path.name), path)
        self.assertIn("__init__.py", self.texts())

    def test_the_looker_finds(self):
        for rule, text in FOUND.items():
            faults = looked("swellways", {"some.py": text})
            self.assertIn(rule, [fault[0] for fault in faults], text)

    def test_the_looker_finds_methods_that_are_values_elsewhere(self):
        one = "class A:\n    def f(self):\n        return 1\n"
        two = "class B:\n    def __init__(self):\n        self.f = 1\n"
        self.assertIn("L18", [fault[0] for fault in looked("swellways", {"one.py": one, "two.py": two})])

    def test_the_looker_finds_rings(self):
        one = "from swellways.two import b\n\n\ndef a():\n    return b()\n"
        two = "from swellways.one import a\n\n\ndef b():\n    return a()\n"
        self.assertIn("L16", [fault[0] for fault in looked("swellways", {"one.py": one, "two.py": two})])


if __name__ == "__main__":
    unittest.main()
