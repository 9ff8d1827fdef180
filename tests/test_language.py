import pathlib
import unittest

import language
import operators

ROOT = pathlib.Path(__file__).resolve().parent.parent
FOLDER = ROOT / language.PACKAGE

WRONG = {
    "L1": ["Big"],
    "L2": ["from .errors import Falls", "from os.path import join", "from squareloops.one import *"],
    "L3": ["x = len('ab')", "if True:\n    x = 1", "x, y = 1, 2", "x = [k for k in (1, 2)]"],
    "L4": ["@cache\ndef f():\n    return 1", "def f(rows=[]):\n    return rows"],
    "L5": ["class A:\n    def __hash__(self):\n        return 1", "def f():\n    class A:\n        pass"],
    "L6": ["def f():\n    global x\n    x = 1", "async def f():\n    return 1"],
    "L7": ["x = 1.5", "def f(a):\n    return a / 2", "def f(a):\n    return all(b for b in a)", "def f(a):\n    return f(*f(a))"],
    "L8": ["def f(a):\n    return hash(a)", "def f(a):\n    print(a)", "def f(max):\n    return 1"],
    "L10": ["def f():\n" + "    f()\n" * 40, "x = 1\n" * 400, "# " + "x" * 119, "if 1:\n\tx = 1"],
    "L12": ["__x = 1", "def f(_):\n    return _"],
    "L14": ["# \u00e9"],
    "L15": ["x = 1\nx = 2", "map = 1", "from math import gcd\ndef f(gcd):\n    return 1", "class A:\n    pass\ndef f():\n    A = 1"],
    "L16": ["import math", "from squareloops.gone import name", "from squareloops.one import one"],
    "L17": ["def f(type):\n    return 1", "x = 'an enum'", "def f(a):\n    return a.open"],
    "L19": ["def f():\n    raise f()()", "def f():\n    try:\n        f()\n    except Exception:\n        pass"],
    "L20": ["def f(a, b):\n    return a is b"],
    "L23": ["def f(a):\n    return zip(a, a)", "def f(a):\n    return f(range(a))", "def f(a):\n    return f(a.items())"],
    "L24": ["def f(a):\n    return set(a)", "def f(a):\n    return {1, a}", "x = {1, 2}"],
    "L25": ["def f(a):\n    return a.popitem()", "def f(a):\n    return a.split(sep='x')"],
    "L27": ["x = 'ten %'", "x = '__odd__'"],
    "L28": ["class A:\n    def __len__(self):\n        return self.n", "class A:\n    def __str__(self):\n        pass"],
}


class Language(unittest.TestCase):
    def test_the_files_of_the_package(self):
        files = {path.name: path for path in FOLDER.iterdir() if path.name != "__pycache__"}
        for path in files.values():
            self.assertTrue(path.is_file() and path.suffix == ".py", path)
        sources = {name: path.read_text(encoding="utf-8") for name, path in files.items()}
        self.assertEqual(language.faults(sources), [])
        self.assertEqual(operators.faults(sources), [])

    def test_tests_stand_beside_the_package(self):
        self.assertEqual(sorted(FOLDER.rglob("test*")), [])

    def test_the_checks_find_what_is_wrong(self):
        for rule, sources in WRONG.items():
            for source in sources:
                with self.subTest(rule=rule, source=source):
                    name = f"{source}.py" if rule == "L1" else "one.py"
                    found = language.faults({"__init__.py": "", name: "" if rule == "L1" else source})
                    self.assertTrue([fault for fault in found if f" {rule} " in fault], found)

    def test_the_checks_find_operators_that_change(self):
        rows = {
            "self.n = 1": 1, "self.rows.append(1)": 1, "other.n += 1": 2, "del self.rows[0]": 1, "other()": 1,
            "self.held()": 0, "self.steps[0]()": 1, "helper(self)": 1, "sizes = [1]\n        sizes.append(2)": 0,
            "made = A()\n        made.n = 1": 0, "n = 1\n        n += 1": 0, "n = self.n\n        n += other": 1,
        }
        for row, many in rows.items():
            source = f"class A:\n    def __or__(self, other):\n        {row}\n\ndef helper(box):\n    box.n = 2\n"
            with self.subTest(row):
                self.assertEqual(len(operators.faults({"one.py": source})), many)
                source = source.replace("__or__(self, other)", "many(self, other)")
                self.assertEqual(operators.faults({"one.py": source}), [])

    def test_the_checks_find_operators_that_call_what_an_attribute_is_named(self):
        rows = {
            "self.rows.index(1)": 1, "other.index(1)": 1, "index(1)": 1, "helper([1])": 2, "self.rows[0]": 0,
            "self.rows.find(1)": 0, "self.rows.index": 0,
        }
        for row, many in rows.items():
            for head, tail in [("__or__(self, other)", ""), ("__setitem__(self, at, worth)", ""), ("many(self)", "@property")]:
                source = (
                    f"class A:\n    {tail}\n    def {head}:\n        {row}\n\n"
                    "class B(ValueError):\n    def __init__(self, index):\n        self.index = index\n\n"
                    "def helper(rows):\n    further(rows)\n    rows.index(2)\n\n"
                    "def further(rows):\n    return rows.index(3)\n"
                )
                with self.subTest(row=row, head=head):
                    found = [fault for fault in operators.faults({"one.py": source}) if " L18 " in fault]
                    self.assertEqual(len(found), many)
                    source = source.replace(tail, "").replace(head, "plain(self)")
                    self.assertEqual([fault for fault in operators.faults({"one.py": source}) if " L18 " in fault], [])

    def test_the_checks_find_rings_and_a_missing_file(self):
        ring = {
            "__init__.py": "",
            "one.py": "from squareloops.two import y\nx = 1",
            "two.py": "from squareloops.one import x\ny = 1",
        }
        self.assertEqual(len(language.faults(ring)), 2)
        self.assertEqual(language.faults({"one.py": "x = 1"}), ["__init__.py:0: L14 is missing"])


if __name__ == "__main__":
    unittest.main()
