"""The package keeps to the part of Python that it is written in."""

import pathlib
import unittest

from language_rules import PACKAGE, package_faults

FOLDER = pathlib.Path(__file__).resolve().parent.parent / PACKAGE

# Rows of a file that lie outside, each with the rule that says so.
OUTSIDE = (
    ("L2", "import sys"),
    ("L2", "import parleyhall.errors"),
    ("L2", "from .errors import NoRow"),
    ("L2", "from os import path"),
    ("L2", "from parleyhall.errors import *"),
    ("L2", "def f(x):\n    from parleyhall.errors import NoRow\n    return NoRow"),
    ("L2", "A = 1\nfrom parleyhall.errors import NoRow"),
    ("L3", "A = len('a')"),
    ("L3", "for k in (1, 2):\n    pass"),
    ("L4", "def f(*xs):\n    return xs"),
    ("L4", "def f(x, *, y):\n    return x"),
    ("L4", "def f(x=len('a')):\n    return x"),
    ("L4", "def g(f):\n    return f\n\n\n@g\ndef f(x):\n    return x"),
    ("L5", "class C:\n    A = 1"),
    ("L5", "class C(ValueError, KeyError):\n    pass"),
    ("L6", "def f(x):\n    with x:\n        pass"),
    ("L6", "def f(x):\n    assert x"),
    ("L6", "def f(x):\n    yield x"),
    ("L6", "def f(x):\n    a = b = x\n    return a"),
    ("L6", "def f(x):\n    a, b = x\n    return a"),
    ("L6", "def f(x):\n    for y in x:\n        pass\n    else:\n        pass"),
    ("L6", "def f(x):\n    try:\n        x = 1\n    finally:\n        pass"),
    ("L6", "def f(x):\n    del x"),
    ("L7", "def f(x):\n    return x / 2"),
    ("L7", "def f(x):\n    return 1.5"),
    ("L7", "def f(x):\n    return b'a'"),
    ("L7", "def f(x):\n    return {y: 1 for y in x}"),
    ("L7", "def f(x):\n    return sum(y for y in x)"),
    ("L7", "def f(x):\n    return [y for z in x for y in z]"),
    ("L7", "def f(x):\n    return [*x]"),
    ("L7", "def f(x):\n    return f'{x:3}'"),
    ("L8", "def f(x):\n    return hash(x)"),
    ("L8", "def f(x):\n    print(x)"),
    ("L8", "def f(x):\n    return map(len, x)"),
    ("L10", "def f(x):\n" + "    x = 1\n" * 40),
    ("L10", "A = 1\n" * 401),
    ("L10", "A = '" + "a" * 120 + "'"),
    ("L12", "def _f(x):\n    return x"),
    ("L12", "def f(x):\n    for _ in x:\n        pass"),
    ("L13", "def f(x):\n    return [lambda y: y, lambda y: x]"),
    ("L14", "A = 1\t"),
    ("L14", "# \u00e4"),
    ("L15", "A = 1\nA = 2"),
    ("L15", "A = []\n\n\ndef f(x):\n    A.append(x)"),
    ("L15", "A = {}\n\n\ndef f(x):\n    A[x] = 1"),
    ("L15", "A = [1]\n\n\ndef f(x):\n    return A"),
    ("L15", "A = [[1]]"),
    ("L15", "def f(min):\n    return min"),
    ("L15", "def f(x):\n    next = x\n    return next"),
    ("L15", "class C:\n    pass\n\n\ndef f(C):\n    return C"),
    ("L16", "from parleyhall.other import g"),
    ("L16", "from parleyhall.missing import g"),
    ("L17", "# a type of talk"),
    ("L17", "def f(x):\n    x.register = 1"),
    ("L18", "class C:\n    def m(self):\n        pass\n\n    def m(self):\n        pass"),
    ("L18", "class C:\n    def m(self):\n        self.m = 1"),
    ("L18", "class C:\n    def m(self):\n        pass\n\n\nclass D:\n    def __init__(self):\n        self.m = 1"),
    ("L19", "def f(x):\n    try:\n        x = 1\n    except Exception:\n        pass"),
    ("L19", "def f(x):\n    try:\n        x = 1\n    except:\n        pass"),
    ("L19", "def f(x):\n    raise ValueError"),
    ("L20", "def f(x):\n    return x is ()"),
    ("L21", "def f(x: int):\n    return x"),
    ("L21", "def f(x):\n    y: int = x\n    return y"),
    ("L22", "def f(x):\n    y = len\n    return y(x)"),
    ("L23", "def f(x):\n    y = zip(x, x)\n    return y"),
    ("L23", "def f(x, y):\n    y.extend(reversed(x))"),
    ("L23", "def f(x):\n    return x.items()"),
    ("L23", "def f(x):\n    for y in x:\n        x.append(y)"),
    ("L23", "def f(x):\n    for y in x.items():\n        x[y] = 1"),
    ("L24", "def f(x):\n    y = set(x)\n    return y"),
    ("L24", "def f(x):\n    for y in set(x):\n        x = y"),
    ("L25", "def f(x):\n    x.sort()"),
    ("L25", "def f(x):\n    return x.encode()"),
    ("L25", "def f(x):\n    y = x.append\n    return y"),
    ("L25", "class C:\n    def m(self):\n        return self.m"),
    ("L26", "class C:\n    def sort(self):\n        pass"),
    ("L26", "class C:\n    def __init__(self):\n        self.items = 1"),
    ("L26", "class C:\n    def __init__(self):\n        self.args = 1"),
    ("L27", "def f(x):\n    return 2 ** x"),
    ("L27", "A = '%'"),
    ("L27", "A = '\\x41'"),
    ("L28", "class C:\n    def __init__(self):\n        return None"),
)

WITHIN = '''"""A file that keeps to the rules."""

from parleyhall.other import C

SIDES = (0, 1)
NAMES = {"a": 0, "b": -1}


def f(x, y=None):
    found = []
    for place, part in enumerate(x):
        if part is None or part in SIDES:
            continue
        found.extend([(place, other) for other in range(len(part)) if other != 0])
    for key, value in y.items():
        found.append(NAMES.get(key) if isinstance(value, (int, str)) else f"{value!r}")
    while found:
        found.pop()
    try:
        value = y["a"]
    except KeyError:
        raise C("words")
    return sorted(x, key=len)[1:] + list(reversed(x)) + [len(set(x)), 3 ** 2]


class D:
    def __init__(self, x):
        self.count = x
        self.rows = dict(x)

    def add(self, x):
        self.rows[x] = self.count
        return self.said(x)

    def said(self, x):
        return x in self.rows
'''


class ThePackage(unittest.TestCase):
    def test_nothing_but_files_of_the_program_lies_in_it(self):
        for path in FOLDER.rglob("*"):
            if path.name != "__pycache__" and path.parent.name != "__pycache__":
                with self.subTest(path=path.name):
                    self.assertTrue(path.is_file() and path.suffix == ".py")

    def test_its_files_keep_to_the_rules(self):
        files = {path.name: path.read_text(encoding="utf-8") for path in sorted(FOLDER.glob("*.py"))}
        self.assertIn("__init__.py", files)
        self.assertEqual(package_faults(files), [])


class TheCheck(unittest.TestCase):
    def faults(self, source, name="one.py"):
        files = {"__init__.py": "", "other.py": "class C(ValueError):\n    pass\n", name: source + "\n"}
        return package_faults(files)

    def test_what_lies_outside_is_found(self):
        for rule, source in OUTSIDE:
            with self.subTest(rule=rule, source=source[:80]):
                self.assertIn(rule, [fault.split()[0] for fault in self.faults(source)])

    def test_what_lies_within_is_left(self):
        self.assertEqual(self.faults(WITHIN), [])

    def test_file_names(self):
        for rule, name in (("L1", "One.py"), ("L1", "one-two.py"), ("L14", "sum.py"), ("L14", "test_one.py")):
            with self.subTest(name=name):
                self.assertIn(rule, [fault.split()[0] for fault in self.faults("A = 1", name)])

    def test_a_package_without_its_first_file(self):
        self.assertEqual(package_faults({}), ["L14 __init__.py:0 is not there"])

    def test_files_that_draw_from_one_another(self):
        files = {
            "__init__.py": "",
            "one.py": "from parleyhall.two import B\n\nA = 1\n",
            "two.py": "from parleyhall.one import A\n\nB = 1\n",
        }
        self.assertIn("L16", [fault.split()[0] for fault in package_faults(files)])


if __name__ == "__main__":
    unittest.main()
