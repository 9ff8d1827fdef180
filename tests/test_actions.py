import itertools
import random
import unittest

import plays
from plays import bound
from squareloops.actions import Action
from squareloops.errors import Falls
from squareloops.programs import Nest, Program
from squareloops.sizes import Sizes

WHEEL = Program(Nest("0 to n//2", "i to n-i-1", "turn i,j j,~i ~i,~j ~j,i"))
LAZY = Program(Nest("0 to n//2", "0 to n//2", "turn i,j j,~i ~i,~j ~j,i"))
LOW = Program(Nest("0 to n", "0 to n", "order i,j j,i if i < j"))
GREAT = [10 ** 30, 10 ** 30 - 1, 10 ** 30 - 2, 10 ** 15 + 1, 2 ** 64]
# Programs of each way of words, of loops that overlap, and of rounds in both directions.
CHOSEN = [
    Program(), Program(Nest("0 to n", "0 to n")), WHEEL, LAZY, LOW, WHEEL + LAZY, LOW + WHEEL + LOW,
    Program(Nest("0 to n", "0 to n", "swap i,j j,i")),
    Program(Nest("0 to n", "i+1 to n", "swap i,j j,i")),
    Program(Nest("0 to n", "0 to n//2", "swap i,j i,~j")),
    Program(Nest("0 to n", "0 to n", "copy i,j j,i")),
    Program(Nest("0 to n down", "0 to n", "copy i,j j,i")),
    Program(Nest("0 to n", "0 to n down", "copy i,j ~i,j", "copy i,j i,~j")),
    Program(Nest("0 to n", "0 to n", "order i,j ~i,~j", "order j,i i,j", "order ~j,i i,j")),
    Program(Nest("0 to n down", "0 to n down", "order i,j ~i,~j", "order j,i i,j", "order ~j,i i,j")),
    Program(Nest("0 to n", "0 to n", "turn i,j j,i i,~j ~j,i ~i,j j,~i ~i,~j ~j,~i")),
    Program(Nest("0 to 1", "0 to n", "turn i,j j,i i,~j ~j,i ~i,j j,~i ~i,~j ~j,~i")),
    Program(Nest("n//2 to (n+1)//2", "0 to n", "turn i,j j,i ~j,i", "copy ~i,j j,~i")),
    Program(Nest("n//2-1 to n//2+1", "n//2-1 to (n+1)//2+1", "turn i,j ~i,j j,~i")),
    Program(Nest("1 to n-1", "i-1 to i+1", "swap i,j ~i,~j if i != j")),
    Program(Nest("1 to n-1", "n-i-1 to n-i", "swap i,j i,~j if i <= ~i")),
]


def by_condition(sign, left, right):
    return Program(Nest("0 to n", "0 to n", f"copy i,j ~i,j if {left} {sign} {right}"))


CONDITIONS = [
    by_condition(sign, left, right)
    for sign in plays.SIGNS
    for left, right in itertools.permutations(plays.NUMBERS, 2)
]
DRAWN = plays.programs("inside", 60, inside=True) + plays.programs("any", 25)


def cells_of(n, draw):
    """Some cells: near a corner, on a diagonal, near the middle, and anywhere."""
    near = [0, 1, n // 2 - 1, n // 2, n // 2 + 1, n - 2, n - 1]
    numbers = [number for number in near if 0 <= number < n]
    k = draw.randrange(n)
    return {(draw.choice(numbers), draw.choice(numbers)), (k, k), (k, n - 1 - k), (draw.randrange(n), k)}


class Results(unittest.TestCase):
    def check(self, program, sizes, many):
        action = Action.of(program)
        for n in sizes:
            for table in plays.tables("results", n, many):
                told = plays.play(program, table)
                if told is None:
                    with self.assertRaises(Falls) as caught:
                        action(table)
                    self.assertEqual(caught.exception.size, n)
                    self.assertIs(type(caught.exception.size), int)
                else:
                    self.assertEqual(action(table), told, (str(program), n))

    def test_chosen_programs(self):
        for program in CHOSEN:
            self.check(program, range(1, 13), 6)

    def test_conditions(self):
        for program in CONDITIONS:
            self.check(program, [1, 2, 5, 6], 2)

    def test_drawn_programs(self):
        for program in DRAWN:
            self.check(program, range(1, 13), 3)

    def test_a_table_of_tuples_that_stays(self):
        table = ((1, 2), (3, 4))
        result = Action.of(WHEEL)(table=table)
        self.assertEqual(result, ((3, 1), (4, 2)))
        self.assertIs(type(result), tuple)
        self.assertEqual({type(row) for row in result}, {tuple})
        self.assertEqual(table, ((1, 2), (3, 4)))


class Fallen(unittest.TestCase):
    def check(self, program):
        falls = Action.of(program).falls
        self.assertIs(type(falls), Sizes)
        for n in range(1, 16):
            self.assertIs(n in falls, plays.falls(program, n), (str(program), n))
        for n in GREAT:
            self.assertIs(n in falls, falls_far(program, n), (str(program), n))

    def test_chosen_programs(self):
        for program in CHOSEN:
            self.check(program)

    def test_drawn_programs(self):
        for program in DRAWN:
            self.check(program)

    def test_drawn_loops(self):
        draw = random.Random("loops")
        for _ in range(150):
            self.check(plays.random_program(draw, nests=3, deeds=0))

    def test_by_hand(self):
        told = {
            ("0 to n", "i to n+1"): "even from 2, odd from 1",
            ("0 to n", "0 to n"): "none",
            ("-1 to 0", "0 to 0"): "none",
            ("-1 to 0", "0 to 1"): "even from 2, odd from 1",
            ("n to n+1", "i to n"): "none",
            ("0 to 1", "n//2-1 to n//2"): "1",
            ("0 to 1", "n//2+1 to n"): "none",
            ("0 to 1", "n//2 to n//2+1"): "none",
            ("0 to (n+1)//2+1", "0 to 1"): "1",
            ("(n+1)//2 to n//2+1", "i to n"): "none",
            ("1 to (n+1)//2+1", "n-i to (n+1)//2+1"): "1",
        }
        for (outer, inner), text in told.items():
            self.assertEqual(str(Action.of(Program(Nest(outer, inner))).falls), text, (outer, inner))

    def test_any_nest_without_deeds_counts(self):
        nests = [Nest("0 to n", "0 to n"), Nest("-1 to n", "0 to n")]
        for row in set(itertools.permutations([0, 0, 0, 1])):
            program = Program(*[nests[k] for k in row])
            self.assertEqual(str(Action.of(program).falls), "even from 2, odd from 1")

    def test_a_deed_that_does_nothing_falls_too(self):
        program = Program(Nest("0 to n+1", "0 to n", "swap i,j j,i if i < ~i"))
        self.assertEqual(str(Action.of(program).falls), "even from 2, odd from 1")

    def test_falls_only_at_some(self):
        # Sizes at which results are still asked for beside those at which it falls.
        program = Program(Nest("0 to 1", "n//2-1 to n//2", "swap i,j j,i"))
        action = Action.of(program)
        self.assertEqual(action.falls, Sizes((1,)))
        self.assertEqual(action(((1, 2), (3, 4))), ((1, 2), (3, 4)))
        self.assertEqual(action(((1, 2, 3, 4),) * 4), plays.play(program, ((1, 2, 3, 4),) * 4))
        with self.assertRaises(Falls):
            action(((5,),))


def falls_far(program, n):
    """Whether a program falls at a great size, by the rounds near the ends and the middle."""
    for nest in program.nests:
        first, _, stop, *_ = nest.outer.split()
        low, _, high, *_ = nest.inner.split()
        start, end = bound(first, n), bound(stop, n)
        near = {at + k for at in (0, n // 2, n, start, end) for k in range(-4, 5)}
        for i in [number for number in near if start <= number < end]:
            one, other = bound(low, n, i), bound(high, n, i)
            if one < other and not (0 <= i < n and 0 <= one and other <= n):
                return True
    return False


class Formulas(unittest.TestCase):
    def check(self, program, sizes):
        action = Action.of(program)
        draw = random.Random(str(program))
        for n in sizes:
            for cell in sorted(cells_of(n, draw)):
                if n in action.falls:
                    self.falls(action, n, cell)
                else:
                    formula = action.result(n, cell)
                    self.assertEqual(formula, plays.formula(program, n, cell), (str(program), n, cell))
                    self.assertEqual(action.reaches(n, cell), plays.reached(program, n, cell), (str(program), n, cell))
                    self.in_order(formula, n, cell)

    def in_order(self, formula, n, cell):
        self.assertIs(type(formula), tuple)
        self.assertEqual(list(formula), sorted(set(formula)))
        for one in formula:
            self.assertIs(type(one), tuple)
            self.assertTrue(one)
            self.assertEqual(list(one), sorted(set(one)))
            self.assertLessEqual(set(one), set(plays.images(n, cell)))
        for one, other in itertools.permutations(formula, 2):
            self.assertFalse(set(one) <= set(other))

    def falls(self, action, n, cell):
        for method in (action.result, action.reaches):
            with self.assertRaises(Falls) as caught:
                method(n, cell)
            self.assertEqual(caught.exception.size, n)

    def test_chosen_programs(self):
        for program in CHOSEN:
            self.check(program, [1, 2, 3, 4, 5, 6, 9, 10, 11])
            self.check(program, GREAT[:2])

    def test_drawn_programs(self):
        for k, program in enumerate(DRAWN):
            self.check(program, [1 + k % 11, GREAT[k % len(GREAT)]])

    def test_every_cell_of_small_tables(self):
        for program in CHOSEN[-8:]:
            action = Action.of(program)
            for n in range(1, 7):
                for cell in itertools.product(range(n), repeat=2):
                    if n not in action.falls:
                        self.assertEqual(action.result(n, cell), plays.formula(program, n, cell))
                        self.assertEqual(action.reaches(n, cell), plays.reached(program, n, cell))

    def test_calls_by_name(self):
        action = Action.of(program=WHEEL)
        self.assertEqual(action.result(cell=(0, 1), size=4), action.result(4, (0, 1)))
        self.assertEqual(action.reaches(cell=(0, 1), size=4), ((1, 3),))


class Examples(unittest.TestCase):
    def test_the_examples_of_the_document(self):
        wheel, low = WHEEL, LOW
        right, half = Action.named("right"), Action.named("half")
        self.assertEqual(
            [Action.of(wheel) == right, right >> right == half, right.times(10**30) == Action.named("same"),
             right.inverse() == Action.named("left")],
            [True, True, True, True],
        )
        self.assertEqual(
            [Action.of(wheel).result(10**30, (0, 1)), Action.of(low).result(2, (0, 1)),
             Action.of(low).result(2, (1, 0)), Action.of(low).reaches(3, (0, 2))],
            [(((999999999999999999999999999998, 0),),), (((0, 1), (1, 0)),), (((0, 1),), ((1, 0),)), ((0, 2), (2, 0))],
        )


if __name__ == "__main__":
    unittest.main()
