import unittest

from squareloops import errors
from squareloops.errors import Broken, InvalidLoop, NothingToUndo
from squareloops.programs import Nest, Program
from values import Unfriendly

BASES = {"WrongValue": ValueError, "WrongName": LookupError, "NoAnswer": ArithmeticError}
GIVEN = (
    "InvalidLoop InvalidText InvalidSize InvalidCell InvalidKind InvalidTable InvalidEntry"
    " InvalidPower InvalidCount InvalidTail InvalidName InvalidWish InvalidIndex NotAProgram"
    " NotAnAction"
).split()
INDEX = "InvalidDeeds InvalidNests InvalidListed InvalidChanges InvalidPrograms".split()
LISTED = {
    **{name: ("WrongValue", ("given",)) for name in GIVEN},
    **{name: ("WrongValue", ("index",)) for name in INDEX},
    "UnknownName": ("WrongName", ("given",)),
    "InUse": ("WrongName", ("index",)),
    "Falls": ("NoAnswer", ("size",)),
    "NotOneToOne": ("NoAnswer", ("size",)),
    "NothingToUndo": ("NoAnswer", ()),
    "Broken": ("NoAnswer", ("index", "size")),
}


def values():
    return [
        None, True, False, 0, 7, 10 ** 30, "", "a text", b"ab", (), (1, (2, "x")), [], [1, [2]],
        {"a": 1}, {1}, object(), int, Nest("0 to n", "0 to n"), Program(), ValueError("x"),
    ]


def package_classes():
    return [getattr(errors, name) for name in [*BASES, *LISTED]]


class Errors(unittest.TestCase):
    def test_no_other_classes_and_each_in_its_file(self):
        found = sorted(name for name, value in vars(errors).items() if isinstance(value, type))
        self.assertEqual(found, sorted([*BASES, *LISTED]))
        for one in package_classes():
            self.assertEqual(one.__module__, "squareloops.errors")

    def test_bases(self):
        for name, python_class in BASES.items():
            with self.subTest(name):
                base = getattr(errors, name)
                self.assertEqual(base.__bases__, (python_class,))
                self.assertEqual(vars(base()), {})
                self.assertEqual([repr(base()), str(base())], [f"{name}()", ""])

    def test_each_class_belongs_to_its_base_alone(self):
        for name, (base, _) in LISTED.items():
            with self.subTest(name):
                own = getattr(errors, name)
                self.assertTrue(issubclass(own, BASES[base]))
                others = [one for one in package_classes() if one is not own and issubclass(own, one)]
                self.assertEqual(others, [getattr(errors, base)])
                pythons = [one for one in BASES.values() if issubclass(own, one)]
                self.assertEqual(pythons, [BASES[base]])

    def test_made_by_position_and_by_name(self):
        for name, (_, attributes) in LISTED.items():
            own = getattr(errors, name)
            for number, value in enumerate(values()):
                told = [value, values()[number - 1]][:len(attributes)]
                by_name = dict(zip(attributes, told))
                for error in (own(*told), own(**by_name)):
                    with self.subTest(name=name, value=value):
                        self.assertEqual(list(vars(error)), list(attributes))
                        for attribute, worth in by_name.items():
                            self.assertIs(getattr(error, attribute), worth)
                        shown = ", ".join(f"{key}={worth!r}" for key, worth in by_name.items())
                        self.assertEqual(str(error), shown)
                        self.assertEqual(repr(error), f"{name}({shown})")

    def test_order_and_number_of_attributes(self):
        self.assertEqual(vars(Broken(1, 2)), {"index": 1, "size": 2})
        self.assertEqual(vars(Broken(size=2, index=1)), {"index": 1, "size": 2})
        self.assertEqual(vars(Broken(1, size=2)), {"index": 1, "size": 2})
        self.assertEqual(vars(NothingToUndo()), {})
        self.assertEqual(repr(Broken(index=0, size=3)), "Broken(index=0, size=3)")
        for wrong in (lambda: Broken(1), lambda: InvalidLoop(), lambda: InvalidLoop(1, 2)):
            self.assertRaises(TypeError, wrong)

    def test_made_with_what_cannot_be_shown(self):
        value = Unfriendly()
        self.assertIs(InvalidLoop(value).given, value)
        self.assertIs(InvalidLoop(given=value).given, value)

    def test_raised_and_caught_by_each_of_its_classes(self):
        for name, (base, attributes) in LISTED.items():
            own = getattr(errors, name)
            for caught in (own, getattr(errors, base), BASES[base]):
                with self.subTest(name), self.assertRaises(caught):
                    raise own(*attributes)


if __name__ == "__main__":
    unittest.main()
