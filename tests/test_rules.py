"""The script tools/rules.py notices code outside the rules."""

import os
import tempfile
import unittest

from tools.rules import main, problems_of

PLACE = os.path.dirname(os.path.dirname(os.path.abspath(__file__)))

# For each rule: files that break it.
BROKEN = [
    ("L1", {"Upper.py": ""}),
    ("L1", {"notes.txt": ""}),
    ("L2", {"a.py": "from automatics import *\n"}),
    ("L2", {"a.py": "from .b import name\n", "b.py": "name = 1\n"}),
    ("L2", {"a.py": "from itertools import count\n"}),
    ("L2", {"a.py": "from math import gcd as divisor\n"}),
    ("L2", {"a.py": "from json import loads\n"}),
    ("L2", {"a.py": "NAME = 1\nfrom math import gcd\n"}),
    ("L2", {"a.py": "def f():\n    from math import gcd\n    return gcd(1, 2)\n"}),
    ("L3", {"a.py": "print(1)\n"}),
    ("L3", {"a.py": "NAME = len((1, 2))\n"}),
    ("L4", {"a.py": "def cached(f):\n    return f\n\n\n@cached\ndef g():\n    return 1\n"}),
    ("L5", {"a.py": "def made(c):\n    return c\n\n\n@made\nclass Box:\n    pass\n"}),
    ("L6", {"a.py": "async def f():\n    return 1\n"}),
    ("L7", {"a.py": "NAME = 1.5\n"}),
    ("L7", {"a.py": "def f(a, b):\n    return a / b\n"}),
    ("L7", {"a.py": "def f(rows):\n    return list(zip(*[row for row in rows]))\n"}),
    ("L8", {"a.py": "def f(x):\n    return hash(x)\n"}),
    ("L8", {"a.py": "def f(x):\n    return open(x)\n"}),
    ("L8", {"a.py": "def f(x):\n    print(x)\n"}),
    ("L8", {"a.py": "class Box:\n    def __hash__(self):\n        return 1\n"}),
    ("L10", {"a.py": "def f():\n" + "    f()\n" * 40}),
    ("L10", {"a.py": "# " + "x" * 119 + "\n"}),
    ("L10", {"a.py": "# x\n" * 400}),
    ("L12", {"a.py": "def f():\n    _wall_at = 1\n    return _wall_at\n"}),
    ("L12", {"a.py": "def f():\n    _ = 1\n    return _\n"}),
    ("L12", {"a.py": "def f():\n    __x = 1\n    return __x\n"}),
    ("L13", {"a.py": "def f():\n    seen = {1, 2, 3}\n    return len(seen)\n"}),
    ("L14", {"a.py": "# \u00e9\n"}),
    ("L14", {"a.py": "def f():\n\treturn 1\n"}),
    ("L14", {"a.py": "NAME = 1\r\n"}),
    ("L14", {"len.py": ""}),
    ("L14", {"test_a.py": ""}),
    ("L14", {"a.py": "", "a/__init__.py": ""}),
    ("L14", {"inner/a.py": ""}),
    ("L15", {"a.py": "NAME = 1\nNAME = 2\n"}),
    ("L15", {"a.py": "def f(hash):\n    return hash\n"}),
    ("L15", {"a.py": "def f():\n    next = 1\n    return next\n"}),
    ("L15", {"a.py": "from math import gcd\n\n\ndef f(gcd):\n    return gcd\n"}),
    ("L15", {"a.py": "class Box:\n    pass\n\n\ndef f():\n    Box = 1\n    return Box\n"}),
    ("L16", {"a.py": "import math\n"}),
    ("L16", {"a.py": "from automatics.b import gcd\n", "b.py": "from math import gcd\n"}),
    ("L16", {"a.py": "from automatics.gone import name\n"}),
    ("L16", {"a.py": "from automatics.b import g\n\n\ndef f():\n    return g()\n",
             "b.py": "from automatics.a import f\n\n\ndef g():\n    return f()\n"}),
    ("L17", {"a.py": "def register():\n    return 1\n"}),
    ("L17", {"a.py": "def f(box):\n    return box.elements\n"}),
    ("L17", {"a.py": "def f(box):\n    return box.f_code\n"}),
    ("L17", {"a.py": "def f(vars):\n    return vars\n"}),
    ("L17", {"a.py": "WORD = 'typing'\n"}),
    ("L17", {"a.py": "WORD = 'contextmanagers'\n"}),
    ("L19", {"a.py": "def f():\n    try:\n        return 1\n    except Exception:\n        return 2\n"}),
    ("L19", {"a.py": "def f():\n    try:\n        return 1\n    except:\n        return 2\n"}),
    ("L19", {"a.py": "def f(made):\n    raise made\n"}),
    ("L20", {"a.py": "def f(a, b):\n    return a is b\n"}),
    ("L22", {"a.py": "def f(a):\n    return sum(xs=a)\n"}),
    ("L23", {"a.py": "def f(a, b):\n    return zip(a, b)\n"}),
    ("L23", {"a.py": "def f(a):\n    return (x for x in a)\n"}),
    ("L25", {"a.py": "def f(a, b):\n    return a.union(b)\n"}),
    ("L27", {"a.py": "def f(a, b):\n    return a ** b\n"}),
    ("L27", {"a.py": "def f(a):\n    return '%d' + a\n"}),
]

FINE = {
    "a.py": (
        '"""Words: type, 100%."""\n\nfrom math import gcd\n\nfrom automatics.b import Box\n\nLIMIT = 5\n\n\n'
        "def f(rows):\n    best = Box(1)\n    for at, row in enumerate(rows):\n        best.raised(at)\n"
        "    return [gcd(row, best.n) ** 2 for row in rows if row is not None]\n"),
    "b.py": (
        "class Box:\n    def __init__(self, n):\n        self.n = n\n\n    def raised(self, by):\n"
        "        self.n = self.n + by\n        return sorted([self.n], key=abs, reverse=True)\n"),
}


def problems_with(files):
    """The breaks that are found in a package of these files."""
    with tempfile.TemporaryDirectory() as place:
        folder = os.path.join(place, "automatics")
        os.mkdir(folder)
        for name, text in {"__init__.py": "", **files}.items():
            path = os.path.join(folder, name)
            os.makedirs(os.path.dirname(path), exist_ok=True)
            with open(path, "w", encoding="utf-8", newline="") as stream:
                stream.write(text)
        return problems_of(folder)


class Rules(unittest.TestCase):

    def test_each_break_is_noticed(self):
        for rule, files in BROKEN:
            with self.subTest(rule=rule, files=files):
                self.assertIn(rule, {problem.split(" ")[0] for problem in problems_with(files)})

    def test_fine_code_has_none(self):
        self.assertEqual(problems_with(FINE), [])

    def test_the_package_has_none(self):
        self.assertEqual(problems_of(os.path.join(PLACE, "automatics")), [])
        self.assertEqual(main([os.path.join(PLACE, "automatics")]), 0)


if __name__ == "__main__":
    unittest.main()
