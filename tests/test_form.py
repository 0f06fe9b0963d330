"""The form: what a script can see of the rules for the package's files is looked at in every file."""

import builtins
import unittest

from tests.looking import FILE_NAME, NO_FILES, NO_WORDS, PACKAGE, Look, draws, methods_of, names_at_top, package_sources
from tests.looking_closer import CloserLook


# What the narrower rules leave free.
GOOD = [
    "XS = [1, 2]\n\n\ndef f(k):\n    return XS[k] + len(XS) + sum([x for x in XS]) + list(XS)[0]\n",
    "def f(xs):\n    ys = sorted(xs, key=len, reverse=True)\n    return max(ys, key=lambda y: y[0], default=None)\n",
    "def f(d):\n    for key, value in d.items():\n        d.get(key)\n    return sorted(d.values())\n",
    "def f(x):\n    return isinstance(x, (int, str)) or isinstance(x, bool) or x in {1, 2, 3}\n",
    "class Odd(ValueError):\n    pass\n\n\ndef f(x):\n    try:\n        return f(x)\n    except Odd as e:\n"
    "        raise Odd('odd') from e\n",
    "class Bag:\n    def __init__(self):\n        self.things = []\n\n    def put(self, x):\n"
    "        self.things.append(x)\n\n    def __len__(self):\n        return len(self.things)\n\n"
    "    def __str__(self):\n        return ' '.join(self.things)\n",
    "def f(text):\n    try:\n        return int(text)\n    except ValueError:\n        return None\n",
    "def f(xs):\n    for x in list(xs):\n        xs.remove(x)\n    return xs\n",
    "def f(x):\n    return x\n\n\nFS = {'f': (f, -1)}\n\n\ndef g(k):\n    return FS[k][0](1) if k in FS else None\n",
]
BROKEN_NARROWLY = {
    "L13": ["def f():\n    xs = {1, 2, 3}\n    return 1 in xs\n", "def f():\n    return [lambda x: x, lambda x: 1]\n"],
    "L15": ["XS = [1]\n\n\ndef f():\n    XS.append(2)\n", "XS = [1]\n\n\ndef f():\n    XS[0] = 2\n",
            "XS = {1: 2}\n\n\ndef f():\n    return XS\n", "XS = [1]\n\n\ndef f():\n    return f(XS)\n"],
    "L18": ["class A:\n    pass\n\n\ndef f():\n    return A\n", "class A:\n    pass\n\n\ndef f():\n    return [A]\n",
            "class A:\n    pass\n\n\ndef f():\n    A.x = 1\n", "class A(StopIteration):\n    pass\n",
            "class A:\n    def f(self):\n        pass\n\n    def f(self):\n        pass\n",
            "class A:\n    def f(self):\n        pass\n\n\nclass B:\n    def __init__(self):\n        self.f = 1\n"],
    "L19": ["def f(x):\n    try:\n        return f(x)\n    except ValueError:\n        return 1\n",
            "def f(x):\n    try:\n        return x[1] * 2\n    except IndexError:\n        return 1\n",
            "def f(x):\n    try:\n        return x[1:]\n    except (KeyError, LookupError):\n        return 1\n",
            "def f(x):\n    try:\n        return f(x)\n    except KeyError as e:\n        raise e\n",
            "def f(x):\n    try:\n        return f(x)\n    except KeyError:\n        raise\n"],
    "L21": ["def f(x: int):\n    return x\n", "def f(x) -> int:\n    return x\n"],
    "L22": ["def f(xs):\n    return f(len)\n", "def f(x):\n    return isinstance(x, set)\n",
            "def f(xs):\n    return sorted(xs, key=repr)\n", "def f(xs):\n    return sorted(xs, reverse=f(1))\n",
            "def f(xs):\n    return list(zip(xs, xs, strict=xs))\n", "def f(x):\n    return x.split(sep=' ')\n",
            "def f(x):\n    return int(x, base=2)\n"],
    "L23": ["def f(d):\n    xs = d.items()\n    return xs\n", "def f(d):\n    return d.keys()\n",
            "def f(xs):\n    for x in xs:\n        xs.append(x)\n",
            "def f(xs):\n    for k, x in enumerate(xs):\n        xs[k] = 1\n",
            "def f(d):\n    for k, x in d.items():\n        d.pop(k)\n        return x\n",
            "def f(xs):\n    for x in xs:\n        xs += [x]\n"],
    "L24": ["def f():\n    xs = {1, 2}\n    return 1 in xs\n"],
    "L25": ["def f(xs):\n    return f(xs.append)\n", "def f(xs):\n    add_it = xs.append\n    return add_it\n"],
    "L26": ["class A:\n    def title(self):\n        pass\n",
            "class A:\n    def __init__(self):\n        self.items = 1\n",
            "class A:\n    def sort(self):\n        pass\n",
            "class A:\n    def __init__(self):\n        self.args = 1\n"],
    "L27": ["X = 1" + "0" * 900 + "\n"],
    "L28": ["class A:\n    def __init__(self):\n        return 1\n",
            "class A:\n    def __len__(self):\n        return self.x\n",
            "class A:\n    def __eq__(self, other):\n        self.x = 1\n        return True\n",
            "class A:\n    def __str__(self):\n        return self.x + 'a'\n",
            "class A:\n    def __repr__(self):\n        self.xs.append(1)\n        return 'a'\n"],
}


class Package(unittest.TestCase):
    def test_every_file_keeps_the_rules(self):
        sources = package_sources()
        self.assertIn("__init__.py", sources)
        for name, source in sources.items():
            with self.subTest(name):
                self.assertEqual(Look(source, methods_of(sources)).faults, [])
                self.assertEqual(CloserLook(source, sources.values()).faults, [])

    def test_nothing_else_lies_in_the_package(self):
        for path in PACKAGE.iterdir():
            if path.name == "__pycache__":
                continue
            with self.subTest(path.name):
                self.assertTrue(path.is_file())
                self.assertRegex(path.name, FILE_NAME)
                self.assertNotIn(path.stem, NO_FILES)
                self.assertFalse(path.stem.startswith("test_"))
                self.assertFalse(path.stem != "__init__" and hasattr(builtins, path.stem))
                self.assertIsNone(NO_WORDS.fullmatch(path.stem))

    def test_names_come_from_the_very_file_that_defines_them(self):
        sources = package_sources()
        for name, source in sources.items():
            for drawn_from, names in draws(source).items():
                with self.subTest(name=name, drawn_from=drawn_from):
                    self.assertLessEqual(set(names), names_at_top(sources[drawn_from]))

    def test_no_two_files_draw_from_one_another(self):
        left = {name: set(draws(source)) for name, source in package_sources().items()}
        while left:
            free = [name for name, drawn in left.items() if not drawn & set(left)]
            self.assertNotEqual(free, [], f"these draw from one another: {sorted(left)}")
            for name in free:
                left.pop(name)

    def test_init_binds_no_name(self):
        source = package_sources()["__init__.py"]
        self.assertEqual(names_at_top(source), set())
        self.assertEqual(draws(source), {})


class Looking(unittest.TestCase):
    """The looking itself: what breaks a rule is told, with the rule and the line."""

    def rules(self, source):
        return {rule for rule, line in Look(source).faults + CloserLook(source).faults}

    def test_good_code_has_no_fault(self):
        good = '"""Text."""\n\nfrom stakebodies.errors import Flat\n\nPAIR = (1, -2)\n\n\ndef f(xs):\n    ys = []\n' \
               '    for k, x in enumerate(xs):\n        ys.append(x ** 2 + PAIR[0] - k)\n    if len(ys) == 0:\n' \
               '        raise Flat("none")\n    return sorted(set(ys))\n'
        self.assertEqual(self.rules(good), set())

    def test_more_good_code_has_no_fault(self):
        for good in GOOD:
            with self.subTest(good):
                self.assertEqual(self.rules(good), set())

    def test_line_is_told(self):
        self.assertEqual(Look("def f(x):\n    y = x\n    return y / 2\n").faults, [("L7", 3)])

    def test_sizes(self):
        rows = "    x = 1\n"
        self.assertEqual(self.rules("def f():\n" + rows * 39), set())
        self.assertEqual(self.rules("def f():\n" + rows * 40), {"L10"})
        self.assertEqual(self.rules("# remark\n" * 400), set())
        self.assertEqual(self.rules("# remark\n" * 401), {"L10"})
        self.assertEqual(self.rules("#" * 120 + "\n"), set())
        self.assertEqual(self.rules("#" * 121 + "\n"), {"L10"})
        self.assertIn("L10", self.rules("def f():\n\treturn 1\n"))

    def test_broken_rules(self):
        broken = {
            "L14": ["# caf\u00e9\n", "x = '\u2264'\n", "# a\r\n"],
            "L17": ["# the type of it\n", "def f(x):\n    return x.mro\n", "x = 'enum'\n", "# a dataclasses remark\n",
                    "def register():\n    return 1\n", "def f(x):\n    return x.f_back\n"],
            "L25": ["def f(xs):\n    xs.sort()\n", "def f(x):\n    return x.title()\n",
                    "def f(x):\n    return x.add(1)\n"],
            "L8": ["def f(x):\n    return hash(x)\n", "def f(x):\n    return map(f, x)\n", "def f(x):\n    print(x)\n",
                   "def f(x):\n    return chr(x)\n", "def f(x):\n    return pow(x, 2)\n"],
            "L12": ["def f():\n    _ = 1\n", "def hidden_(_x):\n    return 1\n", "def f(x):\n    return x._y\n"],
            "L15": ["def f(next):\n    return next\n", "def f():\n    sum = 0\n    return sum\n", "X = 1\nX = 2\n",
                    "XS = [[1], [2]]\n", "from stakebodies.errors import Flat\n\n\ndef f(Flat):\n    return Flat\n"],
            "L2": ["from math import gcd\n", "from .errors import Flat\n", "from stakebodies.errors import *\n",
                   "from stakebodies.errors import Flat as F\n", "def f():\n    from stakebodies.errors import Flat\n"],
            "L3": ["X = len([1])\n", "if True:\n    pass\n", "X = 1\nY = (X, 2)\n", "X = [len]\n",
                   "X = {'f': f}\n\n\ndef f():\n    return 1\n",
                   "from stakebodies.edges import edges_of\n\nX = {'f': edges_of}\n"],
            "L4": ["def f(*xs):\n    return xs\n", "def f(**xs):\n    return xs\n", "def f(*, x):\n    return x\n",
                   "def g(x):\n    return x\n\n\n@g\ndef f():\n    return 1\n"],
            "L5": ["class A:\n    x = 1\n", "class A:\n    'text'\n"],
            "L6": ["import math\n", "def f():\n    a = b = 1\n    return a + b\n", "def f(x):\n    del x\n",
                   "def f(x):\n    assert x\n", "def f():\n    'text'\n    return 1\n", "def f(x):\n    yield x\n",
                   "def f(xs):\n    for x in xs:\n        pass\n    else:\n        pass\n",
                   "def f(x):\n    try:\n        f(x)\n    finally:\n        f(1)\n"],
            "L7": ["X = 1.5\n", "X = b'a'\n", "def f(x):\n    return {k for k in x}\n",
                   "def f(x):\n    return {k: 1 for k in x}\n",
                   "def f(x):\n    return any(k for k in x)\n", "def f(x):\n    return f(*x)\n",
                   "def f(x):\n    return [a + b for a in x for b in x]\n", "def f(x):\n    return f'{x + 1}'\n",
                   "def f(x):\n    return (y := x)\n"],
            "L19": ["def f(x):\n    try:\n        return f(x)\n    except Exception:\n        return 1\n",
                    "def f(x):\n    try:\n        return f(x)\n    except:\n        return 1\n"],
            "L20": ["def f(x):\n    return x is f\n"],
            "L23": ["def f(x):\n    y = zip(x, x)\n    return y\n", "def f(x):\n    return range(x)\n"],
            "L24": ["def f(x):\n    y = set(x)\n    return 1 in y\n", "def f(x):\n    return sum(set(x))\n"],
            "L27": ["def f(n):\n    return 2 ** n\n", "X = 'a % b'\n", "X = '\\x41'\n"],
        }
        self.assert_told(broken)

    def test_broken_narrower_rules(self):
        self.assert_told(BROKEN_NARROWLY)

    def assert_told(self, broken):
        for rule, sources in broken.items():
            for source in sources:
                with self.subTest(rule=rule, source=source):
                    self.assertIn(rule, self.rules(source))


if __name__ == "__main__":
    unittest.main()
