import itertools
import unittest
from fractions import Fraction

import cases
import plays
from squareloops.errors import InvalidCell, InvalidKind, InvalidSize
from squareloops.orbits import cell_count, images, kind_of, kinds_of
from values import no_cells, no_integers, no_sizes, nested

KINDS = sorted(itertools.product((0, 1), (0, 1, 2), (0, 1, 2, 3)))
GREAT = [10 ** 30, 10 ** 30 - 1, 10 ** 29 + 6, 10 ** 15 + 1, 2 ** 64, 1001, 500]


def told_kind(n, cell):
    x, y, back_y, back_x = sorted([*cell, *[n - 1 - number for number in cell]])
    assert (back_y, back_x) == (n - 1 - y, n - 1 - x)
    a = 1 if x > 1 else x
    b = 2 if y - x > 2 else y - x
    c = 3 if back_y - y > 3 else back_y - y
    return a, b, c


def all_cells(n):
    return list(itertools.product(range(n), repeat=2))


def cells_of_great(n):
    """Cells near a corner, the middle, a diagonal, an edge, and anywhere."""
    middle = n // 2
    numbers = [0, 1, 2, 3, n - 1, n - 2, n - 3, middle - 2, middle - 1, middle, middle + 1, middle + 2,
               n // 3, n // 3 + 1, n // 3 + 3, n - 1 - n // 3, n - n // 3, n * 5 // 7]
    return list(itertools.product(numbers, repeat=2))


class SmallSizes(unittest.TestCase):
    def test_each_cell(self):
        for n in range(1, 16):
            for cell in all_cells(n):
                self.assertEqual(images(n, cell), tuple(plays.images(n, cell)))
                self.assertEqual(kind_of(n, cell), told_kind(n, cell))

    def test_kinds_and_counts(self):
        for n in range(1, 26):
            kinds = [told_kind(n, cell) for cell in all_cells(n)]
            self.assertEqual(kinds_of(n), tuple(sorted(set(kinds))))
            for kind in KINDS:
                self.assertEqual(cell_count(n, kind), kinds.count(kind), (n, kind))

    def test_least_sizes(self):
        self.assertEqual(kinds_of(1), ((0, 0, 0),))
        self.assertEqual(kinds_of(2), ((0, 0, 1),))
        self.assertEqual(kinds_of(4), ((0, 0, 3), (0, 1, 1), (1, 0, 1)))
        self.assertEqual(images(1, (0, 0)), ((0, 0),))
        self.assertEqual(images(2, (1, 0)), ((0, 0), (0, 1), (1, 0), (1, 1)))
        self.assertEqual(images(5, (2, 2)), ((2, 2),))
        self.assertEqual(len(images(4, (0, 1))), 8)

    def test_all_kinds_stand_in_tables_of_at_most_ten_rows(self):
        found = {kind for n in range(1, 11) for kind in kinds_of(n)}
        self.assertEqual(sorted(found), KINDS)
        self.assertNotIn((1, 2, 3), kinds_of(9))
        self.assertIn((1, 2, 3), kinds_of(10))


class GreatSizes(unittest.TestCase):
    def test_cells(self):
        for n in GREAT:
            for cell in cells_of_great(n):
                self.assertEqual(images(n, cell), tuple(plays.images(n, cell)))
                self.assertEqual(kind_of(n, cell), told_kind(n, cell))

    def test_images_have_the_same_images_and_kind(self):
        for n in [1, 2, 5, 8, *GREAT]:
            cells = all_cells(n) if n < 20 else cells_of_great(n)
            for cell in cells:
                found = images(n, cell)
                self.assertIn(cell, found)
                self.assertIn(len(found), (1, 4, 8))
                for image in found:
                    self.assertEqual(images(n, image), found)
                    self.assertEqual(kind_of(n, image), kind_of(n, cell))

    def test_from_size_ten_on_the_parity_tells_the_kinds(self):
        for n in [*range(10, 40), *GREAT]:
            self.assertEqual(kinds_of(n), kinds_of(10 + n % 2))

    def test_the_counts_of_all_kinds_are_the_cells(self):
        for n in [*range(1, 120), *GREAT]:
            self.assertEqual(sum(cell_count(n, kind) for kind in KINDS), n * n)

    def test_counts_grow_as_at_small_sizes(self):
        # From size 10 on each count is a polynomial in n of degree 2, one for each parity.
        for n in GREAT:
            points = [12 + n % 2, 14 + n % 2, 16 + n % 2]
            for kind in KINDS:
                counts = [[told_kind(m, cell) for cell in all_cells(m)].count(kind) for m in points]
                self.assertEqual(cell_count(n, kind), through(points, counts, n))


def through(points, counts, n):
    """The value at n of the polynomial through three points."""
    total = Fraction(0)
    for point, count in zip(points, counts):
        term = Fraction(count)
        for other in points:
            if other != point:
                term *= Fraction(n - other, point - other)
        total += term
    return total


class Refused(cases.Refusing):
    def test_no_size(self):
        for value in no_sizes():
            self.refused(InvalidSize, value, kinds_of, value)
            for cell in [(0, 0), (-1, 0), None]:
                self.refused(InvalidSize, value, images, value, cell)
                self.refused(InvalidSize, value, kind_of, value, cell)
            for kind in [(0, 0, 0), (9, 9, 9), None]:
                self.refused(InvalidSize, value, cell_count, value, kind)

    def test_no_cell(self):
        for n in [1, 2, 3, 12, 10 ** 30]:
            for value in no_cells(n):
                self.refused(InvalidCell, value, images, n, value)
                self.refused(InvalidCell, value, kind_of, n, value)

    def test_no_kind(self):
        values = [
            *no_integers(), 0, "000", [0, 0, 0], (0, 0), (0, 0, 0, 0), (2, 0, 0), (0, 3, 0), (0, 0, 4),
            (-1, 0, 0), (0, -1, 0), (0, 0, -1), (True, 0, 0), (0, True, 0), (0, 0, True), (False, 0, 0),
            (1, 2, False), ("0", 0, 0), (0, None, 0), (0, 0, (0,)), ((0, 0, 0),), nested(9), (1, 2, 10 ** 39),
        ]
        for n in [1, 10, 10 ** 30]:
            for value in values:
                self.refused(InvalidKind, value, cell_count, n, value)

    def test_limits(self):
        last = 10 ** 30 - 1
        self.assertEqual(kind_of(10 ** 30, (last, last)), (0, 0, 3))
        self.assertEqual(kind_of(1, (0, 0)), (0, 0, 0))
        self.assertEqual(cell_count(1, (0, 0, 0)), 1)
        self.assertEqual(cell_count(1, (1, 2, 3)), 0)


class Calls(unittest.TestCase):
    def test_by_name(self):
        self.assertEqual(images(cell=(0, 1), size=3), images(3, (0, 1)))
        self.assertEqual(kind_of(cell=(0, 1), size=3), (0, 1, 0))
        self.assertEqual(kinds_of(size=3), kinds_of(3))
        self.assertEqual(cell_count(kind=(0, 1, 0), size=3), 4)

    def test_the_example_of_the_document(self):
        self.assertEqual(
            [images(3, (0, 1)), kind_of(3, (1, 0)), kind_of(9, (6, 1)), kinds_of(3), cell_count(10**30, (0, 0, 3))],
            [((0, 1), (1, 0), (1, 2), (2, 1)), (0, 1, 0), (1, 1, 3), ((0, 0, 2), (0, 1, 0), (1, 0, 0)), 4],
        )

    def test_tuples_of_integers(self):
        self.assertIs(type(images(3, (0, 1))), tuple)
        self.assertIs(type(kinds_of(3)), tuple)
        for value in [images(3, (0, 1))[0], kind_of(3, (0, 1)), kinds_of(3)[0]]:
            self.assertIs(type(value), tuple)
            self.assertEqual({type(number) for number in value}, {int})


if __name__ == "__main__":
    unittest.main()
