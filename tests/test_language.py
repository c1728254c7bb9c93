"""The package's files keep to ../shared/LANGUAGE.md, and the search for faults finds some."""

import pathlib
import re
import unittest

from tests.language import drawn_from, faults, method_names, top_names

FOLDER = pathlib.Path(__file__).resolve().parent.parent / "duelground"

WRONG = (
    "import sys", "from os import path", "from .things import WHO", "from duelground.things import *",
    "x = 1\nx = 2", "for k in range(3):\n    pass", "def f(*xs):\n    pass", "def f(*, x):\n    pass",
    "def f():\n    with 3:\n        pass", "def f():\n    yield 3", "def f(x):\n    assert x",
    "def f(x):\n    a = b = x", "def f(x):\n    return x / 2", "def f(x):\n    return 0.5",
    "def f(xs):\n    return any(x for x in xs)", "def f(xs):\n    return {x for x in xs}",
    "def f(xs):\n    return [x for y in xs for x in y]", "def f(x):\n    return hash(x)", "def f(x):\n    return chr(x)",
    "def f(x):\n    return x.sort()", "def f(x):\n    return x is 3", "def f(id):\n    pass", "def f(_):\n    pass",
    "x = 3  # its type", "x = '\u00e9'", "x = '%'", "def f(n):\n    return 2 ** n", "class C:\n    x = 3",
    "def f(x):\n    while x:\n        pass\n    else:\n        pass", "x = '" + "a" * 120 + "'",
    "def f():\n" + "    pass\n" * 40, "x = 1\n" + "\n" * 400, "def f(x):\n\treturn x",
)
RIGHT = (
    '"""Some words."""\n\nfrom duelground.things import WHO\n\nX = 3\n\n\ndef f(x, y=0):\n    return [z + x for z in y]',
    "class C(ValueError):\n    pass",
    "class C:\n    def __init__(self, x):\n        self.x = x\n\n    def shown(self):\n        return self.x",
    "def f(xs):\n    for k, x in enumerate(xs):\n        if x is None:\n            return k\n    return -1",
)


def texts():
    return {path.stem: path.read_text("utf-8") for path in sorted(FOLDER.glob("*.py"))}


class Language(unittest.TestCase):
    def test_the_search_finds_faults(self):
        for text in WRONG:
            with self.subTest(text):
                self.assertNotEqual(faults(text), [])

    def test_the_search_finds_no_fault_in_what_is_right(self):
        for text in RIGHT:
            with self.subTest(text):
                self.assertEqual(faults(text), [])

    def test_no_file_has_a_fault(self):
        files = texts()
        known = [name for text in files.values() for name in method_names(text)]
        for name, text in files.items():
            with self.subTest(name):
                self.assertEqual(faults(text, known), [])

    def test_the_folder_holds_plain_files_alone(self):
        for path in FOLDER.iterdir():
            if path.name != "__pycache__":
                with self.subTest(path.name):
                    self.assertTrue(path.is_file())
                    self.assertRegex(path.name, re.compile(r"\A(__init__|__main__|[a-z][a-z0-9_]*)\.py\Z"))
        self.assertIn("__init__", texts())

    def test_names_are_drawn_from_where_they_are_made(self):
        files = texts()
        for name, text in files.items():
            for other, drawn in drawn_from(text):
                with self.subTest(f"{name} {other} {drawn}"):
                    self.assertIn(drawn, top_names(files[other]))

    def test_no_two_files_draw_from_one_another(self):
        files = texts()
        below = {name: {other for other, _ in drawn_from(text)} for name, text in files.items()}
        for _ in files:
            below = {name: others.union(*[below[other] for other in others]) for name, others in below.items()}
        for name, others in below.items():
            self.assertNotIn(name, others)


if __name__ == "__main__":
    unittest.main()
