import unittest

import cases
from squareloops.actions import Action
from squareloops.errors import Falls, InvalidCell, InvalidPower, InvalidSize, InvalidTable, NoAnswer
from squareloops.errors import NotAProgram
from squareloops.programs import Nest, Program
from values import no_cells, no_integers, no_programs, no_sizes, no_tables

LOW = Program(Nest("0 to n", "0 to n", "order i,j j,i if i < j"))
# Falls at all even sizes, and at no others.
EVEN_FALLS = Program(Nest("(n+1)//2 to n//2+1", "-1 to 0"))
ALL_FALLS = Program(Nest("0 to n", "0 to n+1", "swap i,j j,i"))


def actions():
    return [
        Action.of(LOW), Action.named("same"), Action.of(EVEN_FALLS), Action.of(ALL_FALLS),
        Action.of(LOW) >> Action.of(EVEN_FALLS), Action.of(LOW).times(3), Action.named("left").inverse(),
    ]


class Refused(cases.Refusing):
    def test_no_program(self):
        for value in no_programs():
            self.refused(NotAProgram, value, Action.of, value)
        self.refused(NotAProgram, 1, lambda: Action.of(program=1))

    def test_no_table(self):
        for action in actions():
            for value in no_tables():
                self.refused(InvalidTable, value, action, value)

    def test_no_size_whatever_the_cell_is(self):
        for action in actions():
            for value in no_sizes():
                for cell in [(0, 0), (-1, 0), None]:
                    self.refused(InvalidSize, value, action.result, value, cell)
                    self.refused(InvalidSize, value, action.reaches, value, cell)

    def test_no_cell_also_where_it_falls(self):
        for action in actions():
            for size in (1, 2, 3, 10 ** 30):
                for value in no_cells(size):
                    self.refused(InvalidCell, value, action.result, size, value)
                    self.refused(InvalidCell, value, action.reaches, size, value)

    def test_no_power(self):
        for action in actions():
            for value in [-1, -10 ** 30, 10 ** 30 + 1, 10 ** 39, *no_integers()]:
                self.refused(InvalidPower, value, action.times, value)


class Fallen(unittest.TestCase):
    def falls(self, size, function, *values):
        with self.assertRaises(Falls) as caught:
            function(*values)
        self.assertEqual(caught.exception.size, size)
        self.assertIsInstance(caught.exception, NoAnswer)

    def test_with_the_size(self):
        action = Action.of(EVEN_FALLS)
        for size in (2, 4, 6, 8, 10, 12):
            self.falls(size, action, ((1,) * size,) * size)
        for size in (2, 4, 6, 12, 14, 200, 10 ** 30):
            self.falls(size, action.result, size, (0, 1))
            self.falls(size, action.reaches, size, (size - 1, size // 2))
        for size in (1, 3, 5, 7, 9, 11):
            self.assertEqual(action(((1,) * size,) * size), ((1,) * size,) * size)
        for size in (1, 3, 11, 201, 10 ** 30 - 1):
            self.assertEqual(action.result(size, (0, size - 1)), (((0, size - 1),),))
            self.assertEqual(action.reaches(size, (0, size - 1)), ((0, size - 1),))

    def test_of_other_actions(self):
        for action in (Action.of(LOW) >> Action.of(EVEN_FALLS), Action.of(EVEN_FALLS) >> Action.of(LOW),
                       Action.of(EVEN_FALLS).times(0), Action.of(EVEN_FALLS).times(10 ** 30),
                       Action.of(EVEN_FALLS).inverse()):
            self.falls(4, action, ((1,) * 4,) * 4)
            self.falls(10 ** 30, action.result, 10 ** 30, (0, 0))
            self.falls(10 ** 30, action.reaches, 10 ** 30, (0, 0))
            self.assertEqual(action(((7,),)), ((7,),))

    def test_at_all_sizes(self):
        action = Action.of(ALL_FALLS)
        for size in range(1, 13):
            self.falls(size, action, ((1,) * size,) * size)
            self.falls(size, action.result, size, (0, 0))
        self.assertTrue(action.inverse() == action == action.times(0) == action >> action)


if __name__ == "__main__":
    unittest.main()
