import unittest

import grammar
from squareloops.errors import InvalidText
from squareloops.programs import Nest, Program
from values import no_strings

WHEEL = "i from 0 to n//2\nj from i to n-i-1\nturn i,j j,~i ~i,~j ~j,i"
LAZY = "i from 0 to n//2\nj from 0 to n//2\nturn i,j j,~i ~i,~j ~j,i"
BARE = "i from 0 to 1\nj from -1 to 1"
LOW = "i from 0 to n\nj from 0 to n\norder i,j j,i if i < j"
SIX = "\n".join([
    "i from -1 to (n+1)//2+1 down", "j from n-i+1 to i-1 down",
    "swap i,j j,i", "copy ~i,~j ~j,~i if ~i != ~j", "order j,~i i,~j if i <= ~i",
    "turn i,j j,i i,~j ~j,i ~i,j j,~i ~i,~j ~j,~i if ~j == i", "swap i,j j,i",
    "turn ~i,~j i,j ~j,i if j < i",
])
FULL = "\n".join([SIX] * 4)
MIXED = "\n".join([WHEEL, BARE, SIX, LOW])
ALL = [WHEEL, LAZY, BARE, LOW, SIX, FULL, MIXED, WHEEL + "\n" + LAZY, "\n".join([BARE] * 4)]


class Reading(unittest.TestCase):
    def test_read_by_position_and_by_name_and_again(self):
        for text in ["", *ALL]:
            program = Program.read(text)
            self.assertIs(type(program), Program)
            self.assertEqual(str(program), text)
            self.assertEqual(Program.read(text=text), program)
            self.assertEqual(Program.read(str(program)), program)
            self.assertEqual(str(Program.read(str(program))), text)
            self.assertEqual(program.read(text), program)

    def test_the_nests_that_are_read(self):
        self.assertEqual(Program.read("").nests, ())
        self.assertEqual(Program.read(BARE).nests, (Nest("0 to 1", "-1 to 1"),))
        self.assertEqual(
            Program.read(WHEEL + "\n" + LOW).nests,
            (
                Nest("0 to n//2", "i to n-i-1", "turn i,j j,~i ~i,~j ~j,i"),
                Nest("0 to n", "0 to n", "order i,j j,i if i < j"),
            ),
        )
        program = Program.read(FULL)
        self.assertEqual([len(nest) for nest in program.nests], [6, 6, 6, 6])
        self.assertEqual(repr(program), "Program of 4 nests, 24 deeds")

    def test_every_loop_and_deed(self):
        for loop in grammar.OUTER_LOOPS:
            self.assertEqual(Program.read(f"i from {loop}\nj from 0 to n"), Program(Nest(loop, "0 to n")))
        for loop in grammar.INNER_LOOPS:
            self.assertEqual(Program.read(f"i from 0 to n\nj from {loop}"), Program(Nest("0 to n", loop)))
        for deed in grammar.PAIR_DEEDS + grammar.TURNS:
            read = Program.read(f"{BARE}\n{deed} if i < ~j")
            self.assertEqual(read, Program(Nest("0 to 1", "-1 to 1", deed + " if i < ~j")))


class RefusedTexts(unittest.TestCase):
    def refused(self, given):
        for read in (lambda: Program.read(given), lambda: Program.read(text=given)):
            with self.assertRaises(InvalidText) as caught:
                read()
            self.assertIs(caught.exception.given, given)

    def told(self, text):
        """Asks whether a text is read, and compares this with the tests' own grammar."""
        with self.subTest(text):
            if grammar.is_text(text):
                self.assertEqual(str(Program.read(text)), text)
            else:
                self.refused(text)

    def test_values_that_are_no_strings(self):
        for value in no_strings():
            self.refused(value)
        self.refused((WHEEL,))
        self.refused(WHEEL.split("\n"))
        self.refused(WHEEL.encode())
        self.refused(Program.read(WHEEL))

    def test_a_row_left_out_told_twice_or_empty(self):
        for text in ALL:
            rows = text.split("\n")
            for k in range(len(rows)):
                self.told("\n".join(rows[:k] + rows[k + 1:]))
                self.told("\n".join(rows[:k + 1] + rows[k:]))
                self.told("\n".join(rows[:k] + [""] + rows[k + 1:]))
                self.told("\n".join(rows[:k] + [""] + rows[k:]))
                self.told("\n".join(rows[:k] + [rows[k] + " "] + rows[k + 1:]))
                self.told("\n".join(rows[:k] + [" " + rows[k]] + rows[k + 1:]))

    def test_a_row_put_elsewhere(self):
        for text in ALL:
            rows = text.split("\n")
            for k in range(len(rows)):
                left = rows[:k] + rows[k + 1:]
                for place in range(len(rows)):
                    self.told("\n".join(left[:place] + [rows[k]] + left[place:]))

    def test_refused_by_name(self):
        outer, inner, deed = WHEEL.split("\n")
        for rows in (
            [outer], [inner], [deed], [outer, deed], [inner, deed], [outer, deed, inner], [inner, outer, deed],
            [deed, outer, inner], [outer, outer, inner, deed], [outer, inner, inner, deed], [outer, inner, outer],
            [outer, inner, "", deed], [outer, "", inner, deed], ["", outer, inner, deed], [outer, inner, deed, ""],
            [outer, inner, *[deed] * 7], [*[outer, inner] * 5], [outer, inner, deed] * 5, [outer, inner, deed + " "],
            [inner.replace("j", "i", 1), inner, deed], ["0 to n//2", "i to n-i-1", deed], [outer, inner + "\r", deed],
            ["i to n//2", inner], ["i from  0 to n", inner], ["i from0 to n", inner], ["i from", inner],
            [outer, "j from "], [outer, "j  from 0 to n"], ["I from 0 to n", inner], [outer, outer],
            [inner, inner], ["j from 0 to n", "i from 0 to n"], ["i from 0 to n down down", inner],
        ):
            self.refused("\n".join(rows))

    def test_newlines_at_the_ends(self):
        for text in ["", *ALL]:
            for wrong in (text + "\n", "\n" + text, text + "\n\n", text + " ", " " + text, text + "\r"):
                self.refused(wrong)

    def test_too_many(self):
        self.refused(BARE + "\nswap i,j j,i" * 7)
        self.refused("\n".join([BARE, BARE + "\nswap i,j j,i" * 7]))
        self.refused("\n".join([BARE + "\nswap i,j j,i" * 7, BARE]))
        self.refused("\n".join([BARE] * 5))
        self.refused("\n".join([FULL, BARE]))
        self.refused("\n".join([SIX] * 5))

    def test_one_sign_less_more_or_another_one(self):
        for text in (WHEEL, BARE + "\n" + LOW):
            for wrong in grammar.mutants(text):
                self.told(wrong)


if __name__ == "__main__":
    unittest.main()
