"""The package against what a script can see of its language, and the script against known faults."""

import os
import unittest

import language

FOLDER = os.path.join(os.path.dirname(os.path.dirname(os.path.abspath(__file__))), language.PACKAGE)

# For each of these sources of a file, the rule that it breaks.
FAULTS = (
    ("import sys\n", "L2"),
    ("from os import path\n", "L2"),
    ("from .parts import Url\n", "L2"),
    ("from urlplaces.parts import Url as Place\n", "L2"),
    ("from urlplaces.nothing import it\n", "L2"),
    ("from math import pi\n", "L2"),
    ("def f():\n    from math import gcd\n    return gcd(1, 2)\n", "L2"),
    ("from urlplaces.one import two\n", "L16"),
    ("A = len('a')\n", "L3"),
    ("A = B = 1\n", "L3"),
    ("A = 1\nprint(A)\n", "L3"),
    ("if True:\n    A = 1\n", "L3"),
    ("A = {'b': c}\n", "L3"),
    ("A = (b,)\n\n\ndef b():\n    return 1\n", "L3"),
    ("def b():\n    return 1\n\n\nA = b\n", "L3"),
    ("A = {}\n\n\ndef f(b):\n    return A[b](b)\n", "L3"),
    ("def deco(f):\n    return f\n\n\n@deco\ndef g():\n    return 1\n", "L4"),
    ("def f(rows=[]):\n    return rows\n", "L4"),
    ("class A:\n    @some\n    def b(self):\n        return 1\n", "L5"),
    ("class A:\n    def __hash__(self):\n        return 1\n", "L12"),
    ("class A:\n    rows = list('a')\n", "L5"),
    ("A = [[1]]\n", "L15"),
    ("A = 1\nA = 2\n", "L15"),
    ("A = [1]\n\n\ndef f():\n    A.append(2)\n", "L15"),
    ("A = {}\n\n\ndef f():\n    A[1] = 2\n", "L15"),
    ("from urlplaces.one import ONE\n\n\ndef f():\n    del ONE[1]\n", "L15"),
    ("def f():\n    class A:\n        pass\n    return A()\n", "L15"),
    ("def f(len):\n    return len\n", "L15"),
    ("from math import gcd\n\n\ndef f(gcd):\n    return gcd\n", "L15"),
    ("A = 1\n\n\ndef f():\n    global A\n    A = 2\n", "L6"),
    ("async def f():\n    return 1\n", "L6"),
    ("def f():\n    return 1.5\n", "L7"),
    ("def f(a):\n    return a / 2\n", "L7"),
    ("def f(a):\n    return any(b for b in a)\n", "L7"),
    ("def f(a):\n    return filter(None, a)\n", "L8"),
    ("def f(a):\n    return chr(a)\n", "L8"),
    ("def f(a):\n    return a.__dict__\n", "L8"),
    ("def f():\n" + "    f()\n" * 40, "L10"),
    ("A = 1  # " + "a" * 120 + "\n", "L10"),
    ("# a\n" * 400, "L10"),
    ("def f():\n\treturn 1\n", "L10"),
    ("def __f():\n    return 1\n", "L12"),
    ("A = 'caf\u00e9'\n", "L14"),
    ("def f(open_, elements):\n    return elements\n", "L17"),
    ("def f(a):\n    return a.namedtuple\n", "L17"),
    ("A = 'dataclass'\n", "L17"),
    ("class A(AttributeError):\n    pass\n", "L18"),
    ("class A(object):\n    pass\n", "L18"),
    ("class A:\n    def b(self):\n        return 1\n\n    def b(self):\n        return 2\n", "L18"),
    ("def f():\n    try:\n        g()\n    except Exception:\n        return 1\n", "L19"),
    ("def f():\n    try:\n        g()\n    except ValueError:\n        return 1\n", "L19"),
    ("def f():\n    raise ValueError\n", "L19"),
    ("def f(a, b):\n    return a is b\n", "L20"),
    ("def f(a: int):\n    return a\n", "L21"),
    ("def f(a):\n    b: int = a\n    return b\n", "L21"),
    ("def f(a) -> int:\n    return a\n", "L21"),
    ("def f(a):\n    return int(a, base=8)\n", "L22"),
    ("def f(a):\n    b = zip(a, a)\n    return b\n", "L23"),
    ("def f(a):\n    for b in a:\n        a.append(b)\n", "L23"),
    ("def f(a):\n    for b in a:\n        if b:\n            a[0] = b\n", "L23"),
    ("def f(a):\n    for b in set(a):\n        return b\n", "L24"),
    ("def f(a):\n    return a.encode()\n", "L25"),
    ("def f(a):\n    return a.split(sep=' ')\n", "L25"),
    ("A = '%'\n", "L27"),
    ("A = '\\x41'\n", "L27"),
    ("A = 'a._'\n", "L27"),
    ("A = '__a__'\n", "L27"),
    ("def f(a):\n    return 1if a else 2\n", "L27"),
    ("def f(a):\n    return 2 ** a\n", "L27"),
    ("class A:\n    def __init__(self):\n        return None\n", "L28"),
    ("class A:\n    def __len__(self):\n        return self.b\n", "L28"),
    ("class A:\n    def __eq__(self, other):\n        return self.b == other.b\n", "L28"),
    ("class A:\n    def __str__(self):\n        raise ValueError('')\n", "L28"),
    ("def f(a):\n    try:\n        return a\n    finally:\n        a.append(1)\n", "L6"),
    ("def f(a, b):\n    try:\n        return a\n    finally:\n        a.b = b[1]\n", "L6"),
    ("def f(a):\n    for _ in a:\n        return _\n", "L12"),
    ("def f(a):\n    b = set(a)\n    return b\n", "L24"),
    ("def f(a):\n    return {b for b in a}\n", "L24"),
    ("def f(a):\n    for b in a:\n        yield b\n\n\ndef g(a):\n    c = f(a)\n    return c\n", "L23"),
    ("def f(a):\n    for b in a:\n        yield b\n\n\ndef g(a):\n    return 1 in f(a)\n", "L23"),
    ("def f(a):\n    try:\n        yield a\n    finally:\n        a = 1\n", "L23"),
    ("class A:\n    @property\n    def b(self):\n        yield 1\n", "L23"),
    ("class A:\n    def __init__(self):\n        self.b = 1\n\n    def b(self):\n        return 2\n", "L18"),
    ("class A:\n    def __init__(self):\n        self.pop = 1\n", "L26"),
    ("def f(a):\n    return a.b\n", "L18"),
    ("class A:\n    def __contains__(self, a):\n        self.b = a\n        return True\n", "L5"),
    ("class A:\n    @property\n    def b(self):\n        self.rows[1] = 2\n        return 3\n", "L5"),
    ("def f(a):\n    try:\n        a()\n    except KeyError as e:\n        return e.args\n", "L19"),
)


def sources():
    found = {}
    for name in sorted(os.listdir(FOLDER)):
        if name != "__pycache__":
            with open(os.path.join(FOLDER, name), encoding="utf-8", newline="") as file:
                found[name] = file.read()
    return found


class Package(unittest.TestCase):
    def test_the_folder_holds_files_of_python_alone(self):
        for name in sources():
            self.assertRegex(name, r"\A[a-z_0-9]+\.py\Z")

    def test_nothing_is_seen_against_the_rules(self):
        self.assertEqual(language.faults(sources()), [])


class Script(unittest.TestCase):
    def test_a_package_without_faults(self):
        good = {"__init__.py": '"""A package."""\n',
                "one.py": "TWO = 2\n\n\ndef two(a):\n    return a is None\n\n\nTWOS = {'two': two}\n",
                "three.py": "from urlplaces.one import two\n\n\ndef three():\n    return two(1)\n"}
        self.assertEqual(language.faults(good), [])

    def test_each_fault_is_seen(self):
        for source, rule in FAULTS:
            with self.subTest(source):
                found = language.faults({"__init__.py": "", "one.py": "ONE = 1\n", "bad.py": source})
                self.assertIn(rule, [told for name, _, told in found if name == "bad.py"])

    def test_circles_of_imports(self):
        circle = {"__init__.py": "", "a.py": "from urlplaces.b import B\n\nA = 1\n",
                  "b.py": "from urlplaces.a import A\n\nB = 1\n"}
        self.assertEqual(language.faults(circle), [("a.py", 0, "L16"), ("b.py", 0, "L16")])

    def test_names_of_files(self):
        for name in ("Upper.py", "test_a.py", "site.py", "len.py", "a.txt", "a-b.py"):
            self.assertIn((name, 0, "L14"), language.faults({"__init__.py": "", name: ""}))
        self.assertIn(("__init__.py", 0, "L14"), language.faults({"a.py": ""}))


if __name__ == "__main__":
    unittest.main()
