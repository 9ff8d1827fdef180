import unittest

import grammar
from squareloops.errors import InvalidDeeds, InvalidLoop
from squareloops.programs import Nest
from values import no_strings

LOOPS = ["0 to n", "-1 to n//2+1", "(n+1)//2-1 to n-1 down", "n//2 to 1", "i to n-i-1", "n-i+1 to i+1 down"]
WRONG_LOOPS = [
    "", " ", "\n", "to", "0", "0 to", "to n", "0 to n down down", "0 to n n", "0 0 to n", "0 to to n",
    "0  to n", "0 to  n", "0 to n  down", " 0 to n", "0 to n ", "0 to n\n", "\n0 to n", "0 to n down ",
    "0 to n\ndown", "0\tto n", "0 To n", "0 to N", "0 to n Down", "0 to n up", "down", "0 to down",
    "down 0 to n", "0 down to n", "2 to n", "0 to n-2", "0 to n+2", "0 to n//2+2", "0 to n//3",
    "0 to n/2", "0 to (n)//2", "0 to (n+1)//2+2", "0 to n+1//2", "0 to (n-1)//2", "0 to n - 1",
    "00 to n", "+1 to n", "0 to -n", "0 to 2*n", "-2 to n", "~i to n", "0 to j", "0 to n-j",
    "0 to i+2", "0 to n-i-2", "0 to n-i+2", "0 to n-1-i", "0 to i-2", "0 from n", "0 to n if i < j",
    "i from 0 to n", "j from 0 to n", "swap i,j j,i", "0,to,n", "(0 to n)",
]
WRONG_DEEDS = [
    "", " ", "\n", "swap", "copy", "order", "turn", "swap i,j", "swap i,j i,j", "copy j,i j,i",
    "order ~i,~j ~i,~j", "swap i,j j,i i,~j", "copy i,j j,i i,~j", "order i,j j,i i,~j", "turn i,j",
    "turn i,j j,i", "turn i,j j,i i,j", "turn i,j i,j j,i", "turn i,j j,i j,i", "turn i,j j,i i,j if i < j",
    "turn i,j j,i i,~j ~j,i ~i,j j,~i ~i,~j ~j,~i i,j", "turn i,j j,i i,~j ~j,i ~i,j j,~i ~i,~j i,j",
    "move i,j j,i", "Swap i,j j,i", "SWAP i,j j,i", "swaps i,j j,i", "rotate i,j j,i i,~j", "if i < j",
    "swap i,i j,i", "swap i,j j,j", "swap i,j k,i", "swap (i,j) (j,i)", "swap i, j j,i", "swap i j j i",
    "swap i,j,j,i", "swap i,j, j,i", "swap ~i,i j,i", "swap i,j ~i,~i", "swap ~~i,j j,i", "swap i,j i",
    "swap  i,j j,i", "swap i,j  j,i", " swap i,j j,i", "swap i,j j,i ", "swap i,j j,i\n", "\nswap i,j j,i",
    "swap i,j\nj,i", "swap i,j\tj,i", "swap i,j j,i\nswap i,j j,i", "i from 0 to n", "j from 0 to n",
    "swap i,j j,i if", "swap i,j j,i if i", "swap i,j j,i if i <", "swap i,j j,i if i < j j",
    "swap i,j j,i if i < i", "swap i,j j,i if j <= j", "swap i,j j,i if ~i == ~i", "swap i,j j,i if ~j != ~j",
    "swap i,j j,i if i > j", "swap i,j j,i if i >= j", "swap i,j j,i if i = j", "swap i,j j,i if i <> j",
    "swap i,j j,i if i is j", "swap i,j j,i if i<j", "swap i,j j,i if i < 0", "swap i,j j,i if i < n",
    "swap i,j j,i if -i < j", "swap i,j j,i if not i < j", "swap i,j j,i If i < j", "swap i,j j,i i < j",
    "swap i,j j,i  if i < j", "swap i,j j,i if  i < j", "swap i,j j,i if i  < j", "swap i,j j,i if i < j ",
    "swap i,j j,i if i < j if i < j", "swap i,j j,i if i < j and j < i", "if i < j swap i,j j,i",
    "swap if i < j", "swap i,j if i < j", "turn i,j j,i if i < j", "swap i,j j,i when i < j", "0 to n",
    "swap i,j j,i if i,j < j,i", "swap if if if i < j", "swap if i < j i,j j,i",
]
GOOD = "swap i,j j,i"


class RefusedLoops(unittest.TestCase):
    def refused(self, given, *told, **named):
        with self.assertRaises(InvalidLoop) as caught:
            Nest(*told, **named)
        self.assertIs(caught.exception.given, given)

    def test_strings_that_are_no_loops(self):
        for loop in WRONG_LOOPS:
            with self.subTest(loop):
                self.refused(loop, loop, "0 to n")
                self.refused(loop, "0 to n", loop)
                self.refused(loop, inner="0 to n", outer=loop)
                self.refused(loop, inner=loop, outer="0 to n")

    def test_values_that_are_no_strings(self):
        for value in no_strings():
            self.refused(value, value, "0 to n")
            self.refused(value, "0 to n", value)

    def test_inner_bounds_in_an_outer_loop(self):
        for loop in sorted(set(grammar.INNER_LOOPS) - set(grammar.OUTER_LOOPS)):
            self.refused(loop, loop, "0 to n")

    def test_one_sign_less_more_or_another_one(self):
        for loop in LOOPS:
            for wrong in grammar.mutants(loop):
                if wrong not in grammar.OUTER_LOOPS:
                    self.refused(wrong, wrong, "0 to n")
                if wrong not in grammar.INNER_LOOPS:
                    self.refused(wrong, "0 to n", wrong)

    def test_first_error_first(self):
        self.refused("x", "x", "y", "z")
        self.refused("y", "0 to n", "y", "z")
        self.refused(None, None, None)
        self.refused("i to n", "i to n", "y", *[GOOD] * 7)
        self.refused(7, "0 to n", 7, *[GOOD] * 7)


class RefusedDeeds(unittest.TestCase):
    def refused(self, index, *deeds):
        with self.assertRaises(InvalidDeeds) as caught:
            Nest("0 to n", "0 to n", *deeds)
        self.assertEqual(caught.exception.index, index)
        self.assertIs(type(caught.exception.index), int)

    def test_strings_that_are_no_deeds(self):
        for deed in WRONG_DEEDS:
            with self.subTest(deed):
                self.refused(0, deed)

    def test_values_that_are_no_strings(self):
        for value in no_strings():
            self.refused(0, value)
            self.refused(1, GOOD, value)

    def test_one_sign_less_more_or_another_one(self):
        samples = [
            "swap i,j j,i", "copy ~i,j j,~i if i < j", "order ~j,~i i,~j if ~i != ~j",
            "turn i,j j,~i ~i,~j if j <= ~i", "turn i,j j,~i ~i,~j ~j,i", "swap j,i ~j,i if i == j",
        ]
        for sample in samples:
            for wrong in grammar.mutants(sample):
                with self.subTest(wrong):
                    if grammar.is_deed(wrong):
                        self.assertEqual(Nest("0 to n", "0 to n", wrong).deeds, (wrong,))
                    else:
                        self.refused(0, wrong)

    def test_fewer_or_more_places(self):
        for word, least, most in [("swap", 2, 2), ("copy", 2, 2), ("order", 2, 2), ("turn", 3, 8)]:
            for many in range(9):
                for condition in ("", " if i < j"):
                    deed = " ".join([word, *grammar.PLACES[:many]]) + condition
                    if least <= many <= most:
                        self.assertEqual(Nest("0 to n", "0 to n", deed).deeds, (deed,))
                    else:
                        self.refused(0, deed)

    def test_index_of_the_first_wrong_one(self):
        for index in range(6):
            self.refused(index, *[GOOD] * index, "wrong")
            self.refused(index, *[GOOD] * index, "wrong", *[GOOD] * 8)
            self.refused(index, *[GOOD] * index, "wrong", None, "wrong")

    def test_more_than_six(self):
        for many in (7, 8, 20):
            self.refused(6, *[GOOD] * many)
        self.refused(6, *[GOOD] * 6, "wrong")
        self.refused(6, *[GOOD] * 6, None, GOOD)
        for behind in (7, 8, 12):
            self.refused(6, *[GOOD] * behind, "wrong")
        self.refused(5, *[GOOD] * 5, "wrong", GOOD, "wrong")


if __name__ == "__main__":
    unittest.main()
