"""The package follows what a script can see of LANGUAGE.md, and the script sees what it should."""

import os
import unittest
import warnings

import language

PACKAGE = os.path.join(os.path.dirname(os.path.dirname(os.path.abspath(__file__))), "bellrest")

GOOD = '''"""A file."""

from bellrest.other import helper
from math import gcd

LIMIT = (1, None, "a")


class Wrong(ValueError):
    """An error."""

    def __init__(self, value):
        self.value = value


class Box:
    def __init__(self, rows):
        self.rows = rows

    @property
    def first(self):
        return self.rows[0]

    def told(self):
        return sorted([row for row in self.rows if row in LIMIT], key=lambda row: row)


class Small(Box):
    def __init__(self, rows):
        super().__init__(rows[:1])

    def told(self):
        return super().told()


class Keeper:
    def __init__(self, box):
        self.box = box
        self.rows = [box.rows]
        self.before = None
        self.many = 0
        self.done = False

    def __enter__(self):
        self.before = Small(self.rows)
        return self.box

    def __exit__(self, kind, value, trace):
        before = self.before
        if kind is None and not self.done:
            self.done = True
        elif self.many == 3:
            return False
        self.box = before.rows
        self.rows.clear()
        self.rows.append((before.rows, self.many))
        self.count()

    def count(self):
        self.many += 1
        self.before = None


class Quiet(Keeper):
    def __exit__(self, *told):
        pass


def work(numbers, *more, last=1):
    """Some work."""
    seen = set()
    for index, number in enumerate(numbers):
        seen.add(gcd(number, index))
    if len(set(numbers)) != len(numbers):
        raise Wrong(number)
    try:
        helper(*numbers)
    except Wrong:
        return None
    return tuple(a + b for a, b in zip(numbers, numbers[1:])), sorted(seen), Box(more).told(), last
'''

OTHER = "def helper(*numbers):\n    return numbers\n"

EXIT = "class A:\n    def __enter__(self):\n        return self\n\n    def __exit__(self, kind, value, trace):\n"
SHUT = "\n    def shut(self):\n"

# A rule, and lines that break it: a whole file, or the rows of a function when they begin with a blank.
BAD = [
    ("L2", "import os\n"),
    ("L2", "from os import path\n"),
    ("L2", "from math import pi\n"),
    ("L2", "from bellrest.other import helper as h\n"),
    ("L2", "from bellrest.other import *\n"),
    ("L2", "from .other import helper\n"),
    ("L2", "A = 1\nfrom math import gcd\n"),
    ("L2", " from math import gcd\n"),
    ("L3", "A = helper(1)\n"),
    ("L3", "A, B = 1, 2\n"),
    ("L3", "for k in (1, 2):\n    pass\n"),
    ("L3", "A = 1 + 1\n"),
    ("L4", "def f(x=[g()]):\n    return x\n"),
    ("L4", "def g(f):\n    return f\n\n\n@g\ndef f():\n    return 1\n"),
    ("L5", "class A:\n    def __hash__(self):\n        return 1\n"),
    ("L5", "class A(metaclass=B):\n    pass\n"),
    ("L5", "class A:\n    def __or__(self, other):\n        self.rows = other\n"),
    ("L5", "class A:\n    def __or__(self, other):\n        other.rows.append(1)\n"),
    ("L5", "class A:\n    @property\n    def b(self):\n        return f(self)\n\n\ndef f(x):\n    x[0] = 1\n"),
    ("L5", "class A:\n    def __and__(self, other):\n        return other(self)\n"),
    ("L6", " global k\n"),
    ("L6", " k == 1\n"),
    ("L6", EXIT + "        a = self.a\n        b = self.b\n        b.now = a.now\n"),
    ("L6", EXIT + "        a = self.a\n        self.b = a.b\n        self.shut()\n" + SHUT + "        c = self.c\n        c.b = self.b\n"),
    ("L6", EXIT + "        self.shut()\n" + SHUT + "        self.open_again()\n\n    def open_again(self):\n        self.a = 1\n"),
    ("L6", EXIT + "        self.shut(1)\n" + SHUT.replace("self", "self, a") + "        self.a = 1\n"),
    ("L6", EXIT + "        self.a.pop()\n"),
    ("L6", EXIT + "        self.a[0] = self.b\n"),
    ("L6", EXIT + "        self.a.append(self.b[0])\n"),
    ("L6", EXIT + "        self.a = helper(self.b)\n"),
    ("L6", EXIT + "        self.a = -1\n"),
    ("L6", EXIT + "        self.a = value\n"),
    ("L6", EXIT + "        a = value\n"),
    ("L6", EXIT + "        if value is None:\n            self.a = 1\n"),
    ("L6", EXIT + "        if kind == 1:\n            self.a = 1\n"),
    ("L6", EXIT + "        if self.told():\n            self.a = 1\n\n    def told(self):\n        return True\n"),
    ("L6", EXIT + "        if self.a:\n            return True\n"),
    ("L6", EXIT + "        return self.a\n"),
    ("L6", EXIT + "        for a in self.rows:\n            pass\n"),
    ("L6", EXIT.replace("value, trace", "value") + "        pass\n"),
    ("L7", " return 1.5\n"),
    ("L7", " return b'a'\n"),
    ("L7", " return k / 2\n"),
    ("L7", " k = (x for x in k)\n"),
    ("L7", " return max(*[x for x in k])\n"),
    ("L8", " return hash(k)\n"),
    ("L8", " return print(k)\n"),
    ("L8", " return chr(65)\n"),
    ("L8", " return open(k)\n"),
    ("L8", " return __file__\n"),
    ("L10", " pass\n" * 40),
    ("L10", "# " + "x" * 119 + "\n"),
    ("L10", "A = 1\n" + "\n" * 399),
    ("L10", "A = 1"),
    ("L12", " return _\n"),
    ("L12", " k__ = __k = 1\n"),
    ("L12", "# the word _wall\n"),
    ("L13", " return k(sorted({1, 2, 3}))\n"),
    ("L14", "# \u00e9\n"),
    ("L14", "A = 1\t\n"),
    ("L14", "A = 1\r\n"),
    ("L15", "A = 1\nA = 2\n"),
    ("L15", " sum = 1\n"),
    ("L15", " for id in k:\n  pass\n"),
    ("L15", "from bellrest.other import helper\n\n\ndef f(helper):\n    return helper\n"),
    ("L16", "from bellrest.other import missing\n"),
    ("L16", "from bellrest.unknown import missing\n"),
    ("L17", " elements = 1\n"),
    ("L17", " return 'type'\n"),
    ("L17", " dataclass_like = 1\n"),
    ("L17", " k.__class__ = 1\n"),
    ("L18", "class A:\n    def f(self):\n        return 1\n\n    def f(self):\n        return 2\n"),
    ("L18", "class A:\n    pass\n\n\ndef f():\n    return [A]\n"),
    ("L19", " try:\n  pass\n except ValueError:\n  pass\n"),
    ("L19", " try:\n  pass\n except:\n  pass\n"),
    ("L19", " raise k\n"),
    ("L19", " raise KeyError(k)\n"),
    ("L20", " return k is 1\n"),
    ("L20", " return k is not f\n"),
    ("L21", "def f(x: int):\n    return x\n"),
    ("L21", "def f(x) -> int:\n    return x\n"),
    ("L21", " x: int = 5\n"),
    ("L5", " return super().told()\n"),
    ("L5", "class A:\n    def told(self):\n        return [super().told() for _ in self]\n"),
    ("L17", "class A:\n    def told(self):\n        return self.__init__()\n"),
    ("L17", "class A:\n    def told(self):\n        return super().__init__()\n"),
    ("L22", " return sorted(k, cmp=k)\n"),
    ("L22", " return list(map(len, k)) + [len]\n"),
    ("L22", " return 'a b'.split(sep=' ')\n"),
    ("L23", " return zip(k, k)\n"),
    ("L23", " return len(enumerate(k))\n"),
    ("L23", " for x in k:\n  k.append(x)\n"),
    ("L23", " for x, y in enumerate(k):\n  k[x] = y\n"),
    ("L24", " return set(k)\n"),
    ("L24", " for x in set(k):\n  pass\n"),
    ("L24", " k.a = {1, 2}\n"),
    ("L25", " return k.format(1)\n"),
    ("L25", " return k.union(k)\n"),
    ("L25", " return k.to_bytes(1)\n"),
    ("L26", " k.items = 1\n"),
    ("L27", " return 'a%b'\n"),
    ("L27", " return 'a\\x41'\n"),
    ("L27", " return k ** k\n"),
    ("L27", " return '__odd__'\n"),
]


def faults(text, **others):
    texts = {"__init__.py": '"""A package."""\n', "other.py": OTHER, "file.py": text}
    texts.update({name + ".py": other for name, other in others.items()})
    return language.faults_of_texts("bellrest", texts)


class TestPackage(unittest.TestCase):
    def test_package(self):
        self.assertEqual(language.faults_of(PACKAGE), [])

    def test_package_was_read(self):
        self.assertIn("moments.py", os.listdir(PACKAGE))

    def test_python_gives_no_warning(self):
        for file in sorted(os.listdir(PACKAGE)):
            if file.endswith(".py"):
                with open(os.path.join(PACKAGE, file), encoding="utf-8") as stream, warnings.catch_warnings():
                    warnings.simplefilter("error")
                    compile(stream.read(), file, "exec")


class TestScript(unittest.TestCase):
    def test_good_file(self):
        self.assertEqual(faults(GOOD), [])

    def test_bad_files(self):
        for rule, text in BAD:
            if text.startswith(" "):
                text = "def f(k):\n" + text
            found = faults(text)
            with self.subTest(rule=rule, text=text):
                self.assertTrue(any(fault.startswith(rule + " file.py:") for fault in found), found)

    def test_circles(self):
        found = faults("from bellrest.more import more\n\n\ndef file():\n    return more()\n",
                       more="from bellrest.file import file\n\n\ndef more():\n    return file()\n")
        self.assertEqual([fault.split(":")[0] for fault in found], ["L16 file.py", "L16 more.py"])

    def test_names_of_files(self):
        for name in ("test_more", "tests", "More", "len", "filter", "enum"):
            self.assertTrue(faults("A = 1\n", **{name: "B = 2\n"}))


if __name__ == "__main__":
    unittest.main()
