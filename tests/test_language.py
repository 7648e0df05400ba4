import pathlib
import re
import unittest

import zonewalk
from language import BAD_FILES, WORDS, clashes, drawn_elsewhere, faults, in_a_ring, method_names

FOLDER = pathlib.Path(zonewalk.__file__).parent
SOURCES = {path.stem: path.read_text(encoding="utf-8") for path in sorted(FOLDER.glob("*.py"))}

# A rule, and a text that breaks it.
BROKEN = [
    ("L2", "import zonewalk.errors\n"),
    ("L2", "from math import gcd\n"),
    ("L2", "from .errors import NoNumber\n"),
    ("L2", "from zonewalk.errors import *\n"),
    ("L2", "def f():\n    from zonewalk.errors import NoNumber\n    return NoNumber\n"),
    ("L3", "if True:\n    pass\n"),
    ("L4", "def f(*many):\n    return many\n"),
    ("L4", "def f(**many):\n    return many\n"),
    ("L4", "def f(one, *, other):\n    return one + other\n"),
    ("L5", "class A:\n    size = 3\n"),
    ("L6", "def f(x):\n    assert x\n"),
    ("L6", "def f(x):\n    'words'\n    return x\n"),
    ("L6", "def f(x):\n    a = b = x\n    return a + b\n"),
    ("L6", "def f(x):\n    try:\n        return x[0]\n    finally:\n        x.append(1)\n"),
    ("L6", "def f(x):\n    for y in x:\n        pass\n    else:\n        pass\n"),
    ("L7", "def f(x):\n    return x / 2\n"),
    ("L7", "def f(x):\n    return x + 0.5\n"),
    ("L7", "def f(x):\n    return {y: True for y in x}\n"),
    ("L7", "def f(x):\n    return sum(y for y in x)\n"),
    ("L7", "def f(x):\n    return [y for z in x for y in z]\n"),
    ("L7", "def f(x):\n    return f'{x:5}'\n"),
    ("L8", "def f(x):\n    return pow(x, 2)\n"),
    ("L8", "def f(x):\n    return x.__dict__\n"),
    ("L10", "A = '" + 120 * "a" + "'\n"),
    ("L10", "def f(x):\n" + 40 * "    x += 1\n"),
    ("L10", 401 * "\n"),
    ("L12", "def _f(x):\n    return x\n"),
    ("L14", "A = 1  # \u00e9\n"),
    ("L15", "A = 1\nA = 2\n"),
    ("L15", "def f(hash):\n    return 1\n"),
    ("L17", "A = 1  # a type\n"),
    ("L17", "def f(x):\n    x.open = 1\n"),
    ("L19", "def f(x):\n    try:\n        return x[0]\n    except Exception:\n        return x\n"),
    ("L20", "def f(x, y):\n    return x is y\n"),
    ("L17", "def f(x):\n    return help(x)\n"),
    ("L21", "def f(x: int):\n    return x\n"),
    ("L22", "def f(x):\n    return isinstance(x, set)\n"),
    ("L22", "def f(x):\n    y = len\n    return y(x)\n"),
    ("L22", "def f(x):\n    return int(x, base=2)\n"),
    ("L23", "def f(x):\n    y = zip(x, x)\n    return y\n"),
    ("L23", "def f(x):\n    return x.items()\n"),
    ("L23", "def f(x):\n    return len(range(x))\n"),
    ("L24", "def f(x):\n    y = set(x)\n    return y\n"),
    ("L24", "def f(x):\n    return [y for y in set(x)]\n"),
    ("L25", "def f(x):\n    return x.append\n"),
    ("L25", "def f(x):\n    x.sort()\n"),
    ("L27", "def f(x):\n    return 2 ** x\n"),
    ("L27", "A = 'half: 50%'\n"),
]


class LanguageTest(unittest.TestCase):
    def test_every_file_keeps_to_the_rules(self):
        own_methods = method_names(SOURCES.values())
        for name, source in SOURCES.items():
            with self.subTest(file=name):
                self.assertEqual(faults(source, own_methods), [])

    def test_nothing_but_plainly_named_files_lies_in_the_package(self):
        for path in FOLDER.iterdir():
            if path.name != "__pycache__":
                self.assertRegex(path.name, r"\A(__init__|__main__|[a-z][a-z0-9_]*)\.py\Z")
                self.assertNotIn(path.stem, BAD_FILES + WORDS)
                self.assertIsNone(re.match("test_", path.stem))

    def test_no_files_draw_from_one_another(self):
        self.assertEqual(in_a_ring(SOURCES), [])

    def test_names_are_drawn_from_where_they_are_defined(self):
        self.assertEqual(drawn_elsewhere(SOURCES), [])

    def test_no_name_is_a_method_here_and_a_value_there(self):
        self.assertEqual(clashes(SOURCES.values()), [])


class CheckerTest(unittest.TestCase):
    def test_each_broken_rule_is_seen(self):
        for rule, source in BROKEN:
            with self.subTest(rule=rule, source=source):
                self.assertIn(rule, [found for found, line in faults(source)])

    def test_clashes_are_seen(self):
        one = "class A:\n    def f(self):\n        return 1\n"
        for other, name in (("f", "f"), ("items", "items"), ("args", "args"), ("step", None)):
            keeps = "class B:\n    def __init__(self):\n        self." + other + " = 1\n"
            self.assertEqual(clashes([one, keeps]), [] if name is None else [name])
        self.assertEqual(clashes(["class A:\n    def isdecimal(self):\n        return 1\n"]), ["isdecimal"])

    def test_a_name_drawn_from_elsewhere_is_seen(self):
        files = {"a": "A = 1\n", "b": "from zonewalk.a import A\n", "c": "from zonewalk.b import A\n"}
        self.assertEqual(drawn_elsewhere(files), [("c", "A")])

    def test_a_ring_is_seen(self):
        drawn = {"a": "b", "b": "c", "c": "b"}
        files = {name: f"from zonewalk.{other} import f\n" for name, other in drawn.items()}
        self.assertEqual(in_a_ring(files), ["b", "c"])


if __name__ == "__main__":
    unittest.main()
