import unittest

from squareloops.errors import InvalidNests
from squareloops.programs import Nest, Program
from values import no_nests

NESTS = [
    Nest("0 to n//2", "i to n-i-1", "turn i,j j,~i ~i,~j ~j,i"),
    Nest("0 to n", "0 to i down", "swap i,j j,i", "copy i,j j,i if i < j", "order i,j ~i,~j"),
    Nest("-1 to n+1 down", "n-i to n"),
    Nest("0 to n//2", "0 to n//2", *["swap i,j ~i,j"] * 6),
]
TEXTS = [
    "i from 0 to n//2\nj from i to n-i-1\nturn i,j j,~i ~i,~j ~j,i",
    "i from 0 to n\nj from 0 to i down\nswap i,j j,i\ncopy i,j j,i if i < j\norder i,j ~i,~j",
    "i from -1 to n+1 down\nj from n-i to n",
    "i from 0 to n//2\nj from 0 to n//2" + "\nswap i,j ~i,j" * 6,
]
DEEDS = [0, 1, 4, 4, 10]


class Programs(unittest.TestCase):
    def test_none_to_four_nests(self):
        for many in range(5):
            program = Program(*NESTS[:many])
            self.assertEqual(program.nests, tuple(NESTS[:many]))
            self.assertIs(type(program.nests), tuple)
            self.assertEqual(len(program), many)
            self.assertIs(bool(program), True)
            self.assertEqual(str(program), "\n".join(TEXTS[:many]))
            self.assertEqual(repr(program), f"Program of {many} nests, {DEEDS[many]} deeds")

    def test_the_text_without_nests_and_without_deeds(self):
        self.assertEqual(str(Program()), "")
        self.assertEqual(repr(Program()), "Program of 0 nests, 0 deeds")
        bare = Program(Nest("0 to 1", "-1 to 1"))
        self.assertEqual(str(bare), "i from 0 to 1\nj from -1 to 1")
        self.assertEqual(repr(bare), "Program of 1 nests, 0 deeds")

    def test_equal_only_if_the_texts_are(self):
        for one in range(5):
            for other in range(5):
                left, right = Program(*NESTS[:one]), Program(*NESTS[:other])
                self.assertIs(left == right, one == other)
                self.assertIs(left != right, one != other)
        again = Nest("-1 to n+1 down", "n-i to n")
        self.assertTrue(Program(NESTS[2]) == Program(again))
        self.assertFalse(Program(NESTS[2]) != Program(again))
        self.assertFalse(Program(*NESTS[:2]) == Program(*NESTS[1::-1]))
        self.assertFalse(Program(again) == Program(again, again))
        parts = Nest("0 to n", "0 to n", "swap i,j j,i"), Nest("0 to n", "0 to n")
        self.assertFalse(Program(*parts) == Program(*parts[::-1]))

    def test_equals_no_value_of_another_class(self):
        class Agreeing:
            def __eq__(self, other):
                return True

        program = Program(NESTS[2])
        others = [
            None, True, False, 0, 1, "", str(program), repr(program), [], (), (NESTS[2],), NESTS[2],
            Program, object(), Agreeing(),
        ]
        for one in (program, Program()):
            for other in others:
                self.assertIs(one == other, False)
                self.assertIs(one != other, True)
                if not isinstance(other, Agreeing):
                    self.assertIs(other == one, False)
                    self.assertIs(other != one, True)

    def test_nests_by_position_alone(self):
        self.assertRaises(TypeError, lambda: Program(nests=()))

    def test_never_changes(self):
        program = Program(*NESTS)
        with self.assertRaises(AttributeError):
            program.nests = ()
        with self.assertRaises(AttributeError):
            del program.nests
        self.assertEqual(program.nests, tuple(NESTS))

    def test_what_is_passed_stays(self):
        nests = list(NESTS)
        Program(*nests)
        self.assertEqual(nests, NESTS)


class RefusedPrograms(unittest.TestCase):
    def refused(self, index, *nests):
        with self.assertRaises(InvalidNests) as caught:
            Program(*nests)
        self.assertEqual(caught.exception.index, index)
        self.assertIs(type(caught.exception.index), int)

    def test_no_nest_at_each_index(self):
        for value in no_nests():
            for index in range(5):
                self.refused(index, *NESTS[:index], value)
                self.refused(index, *NESTS[:index], value, *NESTS)
                self.refused(index, *NESTS[:index], value, value)

    def test_more_than_four(self):
        for many in (5, 6, 12):
            self.refused(4, *[NESTS[0]] * many)

    def test_five_of_which_one_is_no_nest(self):
        for index in range(5):
            nests = [NESTS[0]] * 5
            nests[index] = "0 to n"
            self.refused(index, *nests)
        self.refused(4, *[NESTS[0]] * 5, None)


class Sums(unittest.TestCase):
    def test_nests_of_the_first_then_of_the_other(self):
        for one in range(5):
            for other in range(5 - one):
                left, right = Program(*NESTS[:one]), Program(*NESTS[-other:] if other else ())
                both = left + right
                self.assertIs(type(both), Program)
                self.assertEqual(both.nests, left.nests + right.nests)
                self.assertEqual(len(both), one + other)

    def test_the_order_counts(self):
        one, other = Program(NESTS[0]), Program(NESTS[1])
        self.assertEqual((one + other).nests, (NESTS[0], NESTS[1]))
        self.assertNotEqual(one + other, other + one)
        self.assertEqual(one + one, Program(NESTS[0], NESTS[0]))

    def test_more_than_four(self):
        for one in range(1, 5):
            for other in range(5 - one, 5):
                left, right = Program(*NESTS[:one]), Program(*NESTS[:other])
                with self.assertRaises(InvalidNests) as caught:
                    left + right
                self.assertEqual(caught.exception.index, 4)
                self.assertEqual(left, Program(*NESTS[:one]))
                self.assertEqual(right, Program(*NESTS[:other]))

    def test_the_operands_stay(self):
        one, other = Program(NESTS[0]), Program(NESTS[1])
        kept = one
        one += other
        self.assertEqual(one, Program(NESTS[0], NESTS[1]))
        self.assertEqual(kept, Program(NESTS[0]))
        self.assertEqual(other, Program(NESTS[1]))


class Examples(unittest.TestCase):
    def test_the_example_of_the_document(self):
        wheel = Program(Nest("0 to n//2", "i to n-i-1", "turn i,j j,~i ~i,~j ~j,i"))
        lazy = Program(Nest("0 to n//2", "0 to n//2", "turn i,j j,~i ~i,~j ~j,i"))
        self.assertEqual(
            [str(wheel), Program.read(str(lazy)) == lazy, wheel == lazy, len(wheel + lazy), repr(wheel)],
            [
                'i from 0 to n//2\nj from i to n-i-1\nturn i,j j,~i ~i,~j ~j,i', True, False, 2,
                'Program of 1 nests, 1 deeds',
            ],
        )


if __name__ == "__main__":
    unittest.main()
