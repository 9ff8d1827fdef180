import itertools
import unittest

from squareloops.errors import InvalidCount, InvalidListed, InvalidTail
from squareloops.sizes import Sizes
from values import Agreeing, Unfriendly, no_integers

# Far behind the last number with which a set is made.
END = 1000
EVEN, ODD = range(2, END, 2), range(1, END, 2)

# What a set is made with, and its listed sizes, even and odd told by hand.
MADE = [
    ((), None, None, (), None, None),
    ((1,), None, None, (1,), None, None),
    ((2, 3, 200), None, None, (2, 3, 200), None, None),
    ((199, 200), None, None, (199, 200), None, None),
    ((), 2, None, (), 2, None),
    ((), None, 1, (), None, 1),
    ((), 2, 1, (), 2, 1),
    ((), 200, None, (), 200, None),
    ((), None, 199, (), None, 199),
    ((), 200, 199, (), 200, 199),
    ((1, 4, 6), 8, None, (1,), 4, None),
    ((1, 4), 8, 11, (1, 4), 8, 11),
    ((4,), 8, None, (4,), 8, None),
    ((6,), 8, None, (), 6, None),
    ((2, 4, 6), 8, None, (), 2, None),
    ((2, 6), 8, None, (2,), 6, None),
    ((9,), None, 11, (), None, 9),
    ((1, 3, 5, 7), None, 9, (), None, 1),
    ((1, 5, 7), None, 9, (1,), None, 5),
    ((7, 8, 9, 10), 8, 9, (), 8, 7),
    ((8, 10, 12), 8, None, (), 8, None),
    ((10, 12, 30), 8, None, (), 8, None),
    ((3, 10, 11), 8, None, (3, 11), 8, None),
    ((9, 11, 200), None, 9, (200,), None, 9),
    ((2, 4, 6, 8), None, 5, (2, 4, 6, 8), None, 5),
    ((198, 200), 200, 199, (), 198, 199),
    ((196, 197), 200, 199, (196,), 200, 197),
    (tuple(range(1, 201)), None, None, tuple(range(1, 201)), None, None),
    (tuple(range(1, 201)), 200, None, tuple(range(1, 201, 2)), 2, None),
    (tuple(range(1, 201)), 200, 199, (), 2, 1),
    (tuple(range(2, 201)), 2, 3, (), 2, 3),
]


def made(listed, even, odd):
    return Sizes(listed, even=even, odd=odd)


def told(listed, even, odd):
    """The same set up to END, as a set of integers."""
    found = set(listed)
    found |= {n for n in EVEN if even is not None and n >= even}
    return found | {n for n in ODD if odd is not None and n >= odd}


SETS = [(made(*case[:3]), told(*case[:3])) for case in MADE]
ALL = set(range(1, END))
NO_SIZES = [0, -1, -2, -200, -10 ** 30, *no_integers(), "even from 8", Sizes(), Sizes((1,)), (1, 4)]


class Properties(unittest.TestCase):
    def test_by_hand(self):
        for *given, listed, even, odd in MADE:
            sizes = made(*given)
            self.assertEqual((sizes.listed, sizes.even, sizes.odd), (listed, even, odd))
            self.assertIs(type(sizes.listed), tuple)

    def test_the_sizes_that_belong_to_it(self):
        for sizes, numbers in SETS:
            for n in range(1, END):
                self.assertIs(n in sizes, n in numbers)

    def test_however_large(self):
        for *given, _, even, odd in MADE:
            for great in (10 ** 6, 10 ** 20, 10 ** 30, 10 ** 39):
                self.assertIs(great in made(*given), even is not None)
                self.assertIs(great + 1 in made(*given), odd is not None)
                self.assertIs(great not in made(*given), even is None)

    def test_what_is_no_size_is_in_no_set(self):
        for sizes, _ in SETS:
            for value in NO_SIZES:
                self.assertIs(value in sizes, False)
                self.assertIs(value not in sizes, True)

    def test_least_and_truth(self):
        for sizes, numbers in SETS:
            self.assertEqual(sizes.least, min(numbers, default=None))
            self.assertIs(bool(sizes), bool(numbers))

    def test_texts(self):
        self.assertEqual(str(Sizes()), "none")
        self.assertEqual(str(Sizes((1, 4), even=8, odd=11)), "1, 4, even from 8, odd from 11")
        self.assertEqual(str(Sizes((1, 4))), "1, 4")
        self.assertEqual(str(Sizes((7,), even=8)), "7, even from 8")
        self.assertEqual(str(Sizes(odd=1)), "odd from 1")
        self.assertEqual(str(Sizes(even=2, odd=1)), "even from 2, odd from 1")
        self.assertEqual(str(Sizes((1, 2), odd=3)), "2, odd from 1")
        self.assertEqual(str(~Sizes((200,))), ", ".join([*map(str, range(2, 199, 2)), "even from 202, odd from 1"]))

    def test_ways_to_make_the_same(self):
        self.assertEqual(Sizes(), Sizes((), even=None, odd=None))
        self.assertEqual(Sizes(listed=(1, 4), odd=11, even=8), Sizes((1, 4), even=8, odd=11))
        self.assertRaises(TypeError, lambda: Sizes((), 2))
        self.assertRaises(TypeError, lambda: Sizes((), 2, 1))

    def test_never_changes(self):
        sizes = Sizes((1, 4), even=8)
        for name in ("listed", "even", "odd", "least"):
            with self.assertRaises(AttributeError):
                setattr(sizes, name, None)
        self.assertEqual(str(sizes), "1, 4, even from 8")


class Equality(unittest.TestCase):
    def test_equal_if_they_have_the_same_sizes(self):
        for one, numbers in SETS:
            for other, others in SETS:
                self.assertIs(one == other, numbers == others)
                self.assertIs(one != other, numbers != others)

    def test_equals_no_value_of_another_class(self):
        values = [*NO_SIZES[:-3], 1, "none", "1", {1}, (1,), [1], frozenset({1}), Sizes, Agreeing(), Unfriendly()]
        for sizes in [Sizes(), Sizes((1,)), Sizes(even=2, odd=1)]:
            for value in values:
                self.assertIs(sizes == value, False)
                self.assertIs(sizes != value, True)


class Operators(unittest.TestCase):
    def same(self, sizes, numbers):
        self.assertIs(type(sizes), Sizes)
        self.assertEqual({n for n in range(1, END) if n in sizes}, numbers)
        self.assertEqual(sizes.least, min(numbers, default=None))
        self.assertIs(bool(sizes), bool(numbers))
        even, odd = tail(numbers, EVEN), tail(numbers, ODD)
        self.assertEqual((sizes.even, sizes.odd), (even, odd))
        self.assertEqual(sizes.listed, tuple(sorted(numbers - told((), even, odd))))

    def test_two_sets(self):
        for (one, numbers), (other, others) in itertools.product(SETS, repeat=2):
            self.same(one & other, numbers & others)
            self.same(one | other, numbers | others)
            self.same(one - other, numbers - others)
            self.assertIs(one.within(other), numbers <= others)

    def test_all_other_sizes(self):
        for sizes, numbers in SETS:
            self.same(~sizes, ALL - numbers)
            self.assertTrue(~~sizes == sizes)
            self.assertFalse(sizes & ~sizes)
            self.assertEqual(sizes | ~sizes, Sizes(even=2, odd=1))

    def test_sets_of_operators_again(self):
        for (one, numbers), (other, others) in itertools.product(SETS[::3], SETS[::4]):
            self.same(~(one | other) & ~other, ALL - numbers - others)
            self.same((~one - other) | (one - ~other), (ALL - numbers - others) | (numbers & others))
            self.assertIs((~one).within(~other), others <= numbers)
            self.assertTrue(one & other == ~(~one | ~other))

    def test_properties_above_200(self):
        self.assertEqual((~Sizes((200,))).even, 202)
        self.assertEqual((~Sizes((199,))).odd, 201)
        self.assertEqual((Sizes(even=2) - Sizes((200,))).even, 202)
        self.assertIn(202, ~Sizes((200,)))
        self.assertNotIn(200, ~Sizes((200,)))

    def test_the_operands_stay(self):
        one, other = Sizes((1, 4), even=8), Sizes((2,), odd=11)
        for _ in (one & other, one | other, one - other, ~one, one.within(other)):
            self.assertEqual((str(one), str(other)), ("1, 4, even from 8", "2, odd from 11"))

    def test_within_by_name(self):
        self.assertIs(Sizes((1,)).within(other=Sizes(odd=1)), True)


def tail(numbers, parity):
    """The least number of this parity from which on all of them are there."""
    missing = [n for n in parity if n not in numbers]
    left = [n for n in parity if not missing or n > missing[-1]]
    return left[0] if left else None


class Ascending(unittest.TestCase):
    def test_the_least_sizes(self):
        for sizes, numbers in SETS:
            for count in (0, 1, 2, 3, 10, 100, 200, 250):
                self.assertEqual(list(sizes.ascending(count)), sorted(numbers)[:count])

    def test_many(self):
        self.assertEqual(list(Sizes(even=2, odd=1).ascending(1000)), list(range(1, 1001)))
        self.assertEqual(list(Sizes((1,), even=200).ascending(1000)), [1, *range(200, 2198, 2)])
        self.assertEqual(list(Sizes((200,), odd=199).ascending(count=1000)), [199, 200, *range(201, 2197, 2)])
        self.assertEqual(list(Sizes((200,)).ascending(1000)), [200])
        self.assertEqual(list(Sizes().ascending(1000)), [])
        self.assertEqual(list((~Sizes((200,))).ascending(202))[197:], [198, 199, 201, 202, 203])

    def test_one_by_one(self):
        steps = Sizes((2,), even=8).ascending(3)
        self.assertIs(iter(steps), steps)
        self.assertEqual([next(steps), next(steps), next(steps), next(steps, None)], [2, 8, 10, None])

    def test_no_count(self):
        for value in [-1, 1001, 10 ** 39, -1000, *no_integers(), Sizes()]:
            for sizes in (Sizes(), Sizes((1, 2)), Sizes(even=2)):
                with self.assertRaises(InvalidCount) as caught:
                    next(sizes.ascending(value), None)
                self.assertIs(caught.exception.given, value)


class Refused(unittest.TestCase):
    def refused_listed(self, index, listed, **tails):
        with self.assertRaises(InvalidListed) as caught:
            Sizes(listed, **tails)
        self.assertEqual(caught.exception.index, index)
        self.assertIs(type(caught.exception.index), type(index))

    def refused_tail(self, value, *listed, **tails):
        with self.assertRaises(InvalidTail) as caught:
            Sizes(*listed, **tails)
        self.assertIs(caught.exception.given, value)

    def test_no_tuple(self):
        for value in [None, True, 0, 1, "", "1", [], [1], [1, 2], {}, {1: 1}, {1}, range(1, 3), Sizes(), Unfriendly()]:
            self.refused_listed(None, value)
            self.refused_listed(None, value, even=1, odd=2)

    def test_the_first_that_cannot_be_listed(self):
        values = [*no_integers(), 0, -1, 201, 10 ** 30, 1, 2, 3]
        for value in values:
            self.refused_listed(3, (1, 2, 3, value))
            self.refused_listed(3, (1, 2, 3, value, value))
            self.refused_listed(3, (1, 2, 3, value, 5, 4))
        for value in [*no_integers(), 0, -1, 201, 10 ** 30]:
            self.refused_listed(0, (value,))
            self.refused_listed(0, (value, 1, 2))
            self.refused_listed(0, (value, value, None))
        self.refused_listed(1, (5, 5))
        self.refused_listed(1, (200, 199))
        self.refused_listed(200, (*range(1, 201), 201))
        self.refused_listed(200, (*range(1, 201), 200))
        self.refused_listed(2, (1, 3, 2, 4))

    def test_no_tail(self):
        for value in [*no_integers()[1:], 0, -1, -2, 201, 202, 10 ** 30, 10 ** 39]:
            self.refused_tail(value, even=value)
            self.refused_tail(value, odd=value)
        for value in (1, 3, 199):
            self.refused_tail(value, even=value)
        for value in (2, 4, 200):
            self.refused_tail(value, odd=value)

    def test_listed_then_even_then_odd(self):
        self.refused_listed(0, (0,), even=1, odd=2)
        self.refused_listed(1, (2, 2), odd=2)
        self.refused_tail(1, (2,), even=1, odd=2)
        self.refused_tail(4, (2,), even=2, odd=4)
        self.refused_tail("even", even="even", odd="odd")


class Examples(unittest.TestCase):
    def test_the_example_of_the_document(self):
        some = Sizes((1, 4, 6), even=8)
        self.assertEqual(
            [some.listed, some.even, some.odd, str(~some), 10**20 in some, list((some & ~Sizes((8,))).ascending(4))],
            [(1,), 4, None, '2, odd from 3', True, [1, 4, 6, 10]],
        )


if __name__ == "__main__":
    unittest.main()
