import unittest

import grammar
from squareloops.programs import Nest, Program

SIX = [
    "swap i,j j,i", "copy i,j ~i,~j if i < j", "order j,i i,~j", "turn i,j j,~i ~i,~j ~j,i",
    "turn i,j j,i i,~j ~j,i ~i,j j,~i ~i,~j ~j,~i if ~j != i", "swap i,j j,i",
]


class Nests(unittest.TestCase):
    def test_every_outer_loop(self):
        for loop in grammar.OUTER_LOOPS:
            self.assertEqual(Nest(loop, "0 to n").outer, loop)

    def test_every_inner_loop(self):
        for loop in grammar.INNER_LOOPS:
            self.assertEqual(Nest("0 to n", loop).inner, loop)

    def test_every_deed(self):
        for deed in grammar.PAIR_DEEDS + grammar.TURNS:
            self.assertEqual(Nest("0 to n", "0 to n", deed).deeds, (deed,))

    def test_every_condition(self):
        for start in ("swap i,j j,i", "copy ~i,j ~j,~i", "order j,i i,j", *grammar.TURNS[-10:]):
            for condition in grammar.CONDITIONS:
                deed = start + condition
                self.assertEqual(Nest("0 to n", "0 to n", deed).deeds, (deed,))

    def test_numbers_of_deeds(self):
        for many in range(7):
            nest = Nest("0 to n", "i to n down", *SIX[:many])
            self.assertEqual(nest.deeds, tuple(SIX[:many]))
            self.assertIs(type(nest.deeds), tuple)
            self.assertEqual(len(nest), many)
            self.assertIs(bool(nest), True)

    def test_by_position_and_by_name(self):
        nest = Nest("0 to n", "i to n")
        self.assertEqual(Nest(outer="0 to n", inner="i to n"), nest)
        self.assertEqual(Nest(inner="i to n", outer="0 to n"), nest)
        self.assertEqual(Nest("0 to n", inner="i to n"), nest)
        self.assertEqual([nest.outer, nest.inner, nest.deeds], ["0 to n", "i to n", ()])
        self.assertRaises(TypeError, lambda: Nest("0 to n", "i to n", deeds=()))

    def test_equal_only_if_all_three_are(self):
        def made(outer="0 to n", inner="0 to n", deeds=SIX):
            return Nest(outer, inner, *deeds)

        self.assertTrue(made() == made())
        self.assertFalse(made() != made())
        others = [
            made("1 to n"), made("0 to n down"), made(inner="1 to n"), made(deeds=()),
            made(deeds=SIX[:5]), made(deeds=SIX[1:]), made(deeds=SIX[::-1]), made("n to 0", "n to 0"),
        ]
        for other in others:
            self.assertFalse(made() == other)
            self.assertFalse(other == made())
            self.assertTrue(made() != other)

    def test_equals_no_value_of_another_class(self):
        class Agreeing:
            def __eq__(self, other):
                return True

        nest = Nest("0 to n", "0 to n", "swap i,j j,i")
        others = [
            None, True, 0, "", "i from 0 to n\nj from 0 to n\nswap i,j j,i", [], (), Nest, object(),
            ("0 to n", "0 to n", "swap i,j j,i"), ("0 to n", "0 to n", ("swap i,j j,i",)),
            Program(nest), Agreeing(),
        ]
        for other in others:
            self.assertIs(nest == other, False)
            self.assertIs(nest != other, True)
            if not isinstance(other, Agreeing):
                self.assertIs(other == nest, False)
                self.assertIs(other != nest, True)

    def test_never_changes(self):
        nest = Nest("0 to n", "0 to n", "swap i,j j,i")
        for name in ("outer", "inner", "deeds"):
            with self.assertRaises(AttributeError):
                setattr(nest, name, "1 to n")
            with self.assertRaises(AttributeError):
                delattr(nest, name)
        self.assertEqual(nest, Nest("0 to n", "0 to n", "swap i,j j,i"))

    def test_what_is_passed_stays(self):
        deeds = list(SIX)
        Nest("0 to n", "0 to n", *deeds)
        self.assertEqual(deeds, SIX)


if __name__ == "__main__":
    unittest.main()
