import itertools
import unittest

import plays
from squareloops.actions import Action
from squareloops.errors import UnknownName, WrongName
from squareloops.sizes import Sizes
from values import Agreeing, Unfriendly, no_strings

# The cell from which the entry of the cell (r, c) comes.
ORIGINS = {
    "same": lambda n, r, c: (r, c),
    "transpose": lambda n, r, c: (c, r),
    "slant": lambda n, r, c: (n - 1 - c, n - 1 - r),
    "upside": lambda n, r, c: (n - 1 - r, c),
    "mirror": lambda n, r, c: (r, n - 1 - c),
    "half": lambda n, r, c: (n - 1 - r, n - 1 - c),
    "right": lambda n, r, c: (n - 1 - c, r),
    "left": lambda n, r, c: (c, n - 1 - r),
}
NAMES = list(ORIGINS)
BACK = {name: name for name in NAMES} | {"right": "left", "left": "right"}
GREAT = [10 ** 30, 10 ** 30 - 1, 10 ** 15 + 6]
NINE = ((1, 2, 3), (4, 5, 6), (7, 8, 9))


def turned(name, table):
    n = len(table)
    cells = [[ORIGINS[name](n, r, c) for c in range(n)] for r in range(n)]
    return tuple(tuple(table[r][c] for r, c in row) for row in cells)


def some_cells(n):
    if n < 8:
        return itertools.product(range(n), repeat=2)
    numbers = [0, 1, n // 2 - 1, n // 2, n // 3, n - 1 - n // 3, n - 2, n - 1]
    return itertools.product(numbers, repeat=2)


def name_of_both(one, other):
    """The name of the action that does the one and then the other."""
    table = turned(other, turned(one, NINE))
    return [name for name in NAMES if turned(name, NINE) == table][0]


class Tables(unittest.TestCase):
    def test_all_sizes_of_tables(self):
        for n in range(1, 13):
            for table in plays.tables("named", n, 6):
                for name in NAMES:
                    self.assertEqual(Action.named(name)(table), turned(name, table))

    def test_by_hand(self):
        told = {
            "same": NINE, "transpose": ((1, 4, 7), (2, 5, 8), (3, 6, 9)), "slant": ((9, 6, 3), (8, 5, 2), (7, 4, 1)),
            "upside": ((7, 8, 9), (4, 5, 6), (1, 2, 3)), "mirror": ((3, 2, 1), (6, 5, 4), (9, 8, 7)),
            "half": ((9, 8, 7), (6, 5, 4), (3, 2, 1)), "right": ((7, 4, 1), (8, 5, 2), (9, 6, 3)),
            "left": ((3, 6, 9), (2, 5, 8), (1, 4, 7)),
        }
        for name, table in told.items():
            self.assertEqual(Action.named(name)(NINE), table)
            self.assertEqual(Action.named(name)(table=NINE), table)

    def test_fall_at_no_size(self):
        for name in NAMES:
            self.assertEqual(Action.named(name).falls, Sizes())
            self.assertIs(bool(Action.named(name)), True)


class Formulas(unittest.TestCase):
    def test_results_and_reaches(self):
        for n in [1, 2, 3, 4, 5, 6, 7, 10, 11, 14, *GREAT]:
            for name in NAMES:
                action = Action.named(name)
                for cell in some_cells(n):
                    self.assertEqual(action.result(n, cell), ((ORIGINS[name](n, *cell),),))
                    self.assertEqual(action.reaches(n, cell), (ORIGINS[BACK[name]](n, *cell),))


class Together(unittest.TestCase):
    def test_equality(self):
        for one, other in itertools.product(NAMES, repeat=2):
            self.assertIs(Action.named(one) == Action.named(other), one == other)
            self.assertIs(Action.named(one) != Action.named(other), one != other)

    def test_one_behind_the_other(self):
        for one, other in itertools.product(NAMES, repeat=2):
            both = Action.named(one) >> Action.named(other)
            self.assertTrue(both == Action.named(name_of_both(one, other)))
            for table in plays.tables("both", 4, 3):
                self.assertEqual(both(table), turned(other, turned(one, table)))

    def test_powers(self):
        for name in NAMES:
            power = "same"
            for k in range(9):
                self.assertTrue(Action.named(name).times(k) == Action.named(power))
                power = name_of_both(power, name)
            self.assertTrue(Action.named(name).times(10 ** 30) == Action.named("same"))
            self.assertTrue(Action.named(name).times(power=10 ** 30 - 1) == Action.named(BACK[name]))

    def test_inverses(self):
        for name in NAMES:
            self.assertTrue(Action.named(name).inverse() == Action.named(BACK[name]))

    def test_equals_no_value_of_another_class(self):
        same = Action.named("same")
        values = [None, True, 0, 1, "same", (), {}, [], Sizes(), Action, Action.named, Unfriendly(), Agreeing()]
        for value in values:
            self.assertIs(same == value, False)
            self.assertIs(same != value, True)


class Refused(unittest.TestCase):
    def test_no_name(self):
        words = ["", "Same", "same ", " same", "SAME", "turn", "swap", "i,j", "quarter", "rightt", "righ", "of", "named",
                 "same\n", "x" * 4000]
        values = [*words, *no_strings(), ("same",), ["same"], {"same": 1}, b"same", Agreeing(), Action.named("same")]
        for value in values:
            with self.assertRaises(UnknownName) as caught:
                Action.named(value)
            self.assertIs(caught.exception.given, value)
            self.assertIsInstance(caught.exception, WrongName)

    def test_by_name(self):
        self.assertTrue(Action.named(name="half") == Action.named("half"))


if __name__ == "__main__":
    unittest.main()
