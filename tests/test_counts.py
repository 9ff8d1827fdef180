import random
import unittest

import cases
import plays
from samples import ALL_FALLS, CHOSEN, EVEN_FALLS, FAR, GREAT, LAZY, LOW, ODD_FALLS, ONE_FALLS, WHEEL
from samples import cells_at, falls
from squareloops.actions import Action
from squareloops.counts import cell_counts, round_count
from squareloops.errors import Falls, InvalidSize, NotAnAction, NotAProgram
from squareloops.playing import rounds
from squareloops.programs import Nest, Program
from values import no_actions, no_programs, no_sizes

DRAWN = plays.programs("counts", 50, inside=True) + plays.programs("counts any", 20)
N = 10 ** 30


class CountCase(cases.Refusing):
    def falls(self, size, function, *values):
        with self.assertRaises(Falls) as caught:
            function(*values)
        self.assertEqual(caught.exception.size, size)


class RoundCount(CountCase):
    def check(self, program, sizes):
        for n in sizes:
            if plays.falls(program, n):
                with self.assertRaises(Falls) as caught:
                    round_count(program, n)
                self.assertEqual(caught.exception.size, n)
            else:
                self.assertEqual(round_count(program, n), len(plays.all_rounds(program, n)), (str(program), n))

    def test_small_sizes(self):
        for program in CHOSEN + DRAWN:
            self.check(program, [*range(1, 17), 40, 41])
            for n in range(1, 13):
                if not plays.falls(program, n):
                    self.assertEqual(round_count(program, n), len(list(rounds(program, n))))

    def test_drawn_loops(self):
        draw = random.Random("loops")
        for _ in range(400):
            self.check(plays.random_program(draw, nests=1, deeds=0), [1, 2, 3, 5, 8, 11, 12, 21])

    def test_by_hand_at_great_sizes(self):
        told = [
            ("0 to n", "0 to n", N * N), ("0 to n down", "0 to n", N * N), ("0 to n", "i to n", N * (N + 1) // 2),
            ("0 to n", "i+1 to n down", N * (N - 1) // 2), ("0 to n", "0 to i", N * (N - 1) // 2),
            ("0 to n", "n-i-1 to n", N * (N + 1) // 2), ("0 to n", "n-i to n", N * (N - 1) // 2),
            ("0 to n", "0 to n-i", N * (N + 1) // 2), ("0 to n", "0 to n-i-1", N * (N - 1) // 2),
            ("0 to n//2", "i to n-i-1", N * N // 4), ("0 to n", "i to n-i-1", N * N // 4),
            ("0 to n", "n-i-1 to i+1", N * (N + 2) // 4), ("0 to n", "i to i+1", N), ("0 to n", "i to i", 0),
            ("0 to n", "n to i", 0), ("n to 0", "0 to n", 0), ("0 to 1", "0 to 1", 1), ("1 to n-1", "i-1 to i+1", 2 * (N - 2)),
            ("0 to n//2", "n//2 to n", N * N // 4), ("n//2-1 to n//2+1", "0 to n", 2 * N),
            ("n//2 to (n+1)//2", "0 to n", 0), ("-1 to n+1", "n to 0", 0), ("0 to n", "i to n//2", N * (N + 2) // 8),
        ]
        for outer, inner, many in told:
            self.assertEqual(round_count(Program(Nest(outer, inner)), N), many, (outer, inner))
        three = Program(Nest("0 to n", "0 to n", "swap i,j j,i if i < j"), Nest("0 to n", "i to n"), Nest("0 to 1", "0 to n"))
        self.assertEqual(round_count(size=N, program=three), N * N + N * (N + 1) // 2 + N)
        self.assertEqual(round_count(Program(Nest("n//2 to (n+1)//2", "0 to n")), N - 1), N - 1)
        self.assertEqual(round_count(WHEEL, N - 1), (N - 2) // 2 * (N // 2))
        self.assertEqual(round_count(Program(), N), 0)
        self.assertEqual(round_count(WHEEL + WHEEL, N), 2 * round_count(WHEEL, N))

    def test_against_sums_at_sizes_in_between(self):
        for program in [*CHOSEN, *DRAWN[:20]]:
            for n in (300, 301):
                if falls(program, n):
                    self.assertRaises(Falls, round_count, program, n)
                    continue
                many = 0
                for nest in program.nests:
                    for i in plays.loop_numbers(nest.outer, n):
                        many += len(plays.loop_numbers(nest.inner, n, i))
                self.assertEqual(round_count(program, n), many)

    def test_errors_in_their_order(self):
        for value in no_programs():
            for size in (3, 0, None):
                self.refused(NotAProgram, value, round_count, value, size)
        for value in no_sizes():
            for program in (WHEEL, Program(ALL_FALLS), Program()):
                self.refused(InvalidSize, value, round_count, program, value)
        for n in [1, 2, 5, 6, *GREAT]:
            self.falls(n, round_count, Program(WHEEL.nests[0], ALL_FALLS), n)
            if n % 2 == 0:
                self.falls(n, round_count, Program(EVEN_FALLS), n)
                self.assertEqual(round_count(Program(ODD_FALLS), n), 0)
            else:
                self.falls(n, round_count, Program(ODD_FALLS), n)
                self.assertEqual(round_count(Program(EVEN_FALLS), n), 0)


def told_counts(program, n):
    """The four numbers from the formulas and what is reached, of all cells."""
    counts = [0, 0, 0, 0]
    for cell in cells_at(n):
        formula = plays.formula(program, n, cell)
        if formula == ((cell,),):
            counts[0] += 1
        elif len(formula) == 1 and len(formula[0]) == 1:
            counts[1] += 1
        else:
            counts[2] += 1
        counts[3] += not plays.reached(program, n, cell)
    return tuple(counts)


def asked_counts(action, n):
    """The same from `result` and `reaches` of the action."""
    results = {cell: action.result(n, cell) for cell in cells_at(n)}
    moved = [formula for formula in results.values() if len(formula) == 1 and len(formula[0]) == 1]
    stays = [cell for cell, formula in results.items() if formula == ((cell,),)]
    lost = [cell for cell in results if not action.reaches(n, cell)]
    return len(stays), len(moved) - len(stays), n * n - len(moved), len(lost)


class CellCounts(CountCase):
    def test_small_sizes(self):
        for k, program in enumerate(CHOSEN + DRAWN):
            action = Action.of(program)
            for n in {1, 2, 3, 4, 5, 7 + k % 5}:
                if plays.falls(program, n):
                    self.falls(n, cell_counts, action, n)
                else:
                    self.assertEqual(cell_counts(action, n), told_counts(program, n), (str(program), n))
            for n in range(1, 14):
                if n not in action.falls:
                    self.assertEqual(cell_counts(action, n), asked_counts(action, n))

    def test_all_cells_are_counted_at_great_sizes(self):
        for program in CHOSEN + DRAWN:
            action = Action.of(program)
            for n in [15, 16, *GREAT]:
                if n in action.falls:
                    self.falls(n, cell_counts, action, n)
                    continue
                counts = cell_counts(action, n)
                self.assertEqual(([type(number) for number in counts], type(counts)), ([int] * 4, tuple))
                self.assertEqual(sum(counts[:3]), n * n)
                self.assertGreaterEqual(min(counts), 0)
                self.assertLessEqual(counts[3], n * n)

    def test_by_hand_at_great_sizes(self):
        n, odd = N, N - 1
        told = [
            (Program(), n, (n * n, 0, 0, 0)), (WHEEL, n, (0, n * n, 0, 0)), (WHEEL, odd, (1, odd * odd - 1, 0, 0)),
            (LOW, n, (n, 0, n * (n - 1), 0)), (LAZY, odd, (2 * odd - 1, (odd - 1) ** 2, 0, 0)),
            (LAZY, n, (0, n * n, 0, 0)),
            (Program(Nest("0 to n", "0 to n", "copy i,j j,i")), n,
             (n + n * (n - 1) // 2, n * (n - 1) // 2, 0, n * (n - 1) // 2)),
            (Program(Nest("0 to n//2", "0 to n", "copy i,j ~i,j")), n, (n * n // 2, n * n // 2, 0, n * n // 2)),
            (Program(Nest("0 to n//2", "0 to n", "copy i,j ~i,j")), odd,
             ((odd + 1) // 2 * odd, (odd - 1) // 2 * odd, 0, (odd - 1) // 2 * odd)),
            (Program(Nest("0 to 1", "0 to n", "swap i,j ~i,j")), n, (n * n - 2 * n, 2 * n, 0, 0)),
            (Program(Nest("0 to 1", "0 to 1", "order i,j ~i,~j")), n, (n * n - 2, 0, 2, 0)),
            (Program(EVEN_FALLS, *LOW.nests), odd, (odd, 0, odd * (odd - 1), 0)),
            (Program(ONE_FALLS), n, (n * n - 2, 2, 0, 0)),
        ]
        for program, size, counts in told:
            self.assertEqual(cell_counts(Action.of(program), size), counts, (str(program), size))
            self.assertEqual(cell_counts(size=size, action=Action.of(program)), counts)
        for name in ("upside", "mirror"):
            self.assertEqual(cell_counts(Action.named(name), n), (0, n * n, 0, 0))
            self.assertEqual(cell_counts(Action.named(name), odd), (odd, odd * odd - odd, 0, 0))
        for name in ("transpose", "slant"):
            self.assertEqual(cell_counts(Action.named(name), n), (n, n * n - n, 0, 0))

    def test_far_cells(self):
        action = Action.of(Program(Nest(*FAR, "copy i,j j,i")))
        for n in (9, 10, 11, 12):
            self.assertEqual(cell_counts(action, n), told_counts(Program(Nest(*FAR, "copy i,j j,i")), n))

    def test_of_other_actions(self):
        for name in ("right", "half"):
            both = Action.named(name) >> Action.of(LOW)
            self.assertEqual(cell_counts(both, 12), asked_counts(both, 12))
            self.assertEqual(cell_counts(Action.of(LOW).times(10 ** 30), N), cell_counts(Action.of(LOW), N))

    def test_errors_in_their_order(self):
        for value in no_actions():
            for size in (3, 0, None):
                self.refused(NotAnAction, value, cell_counts, value, size)
        for value in no_sizes():
            for action in (Action.named("same"), Action.of(Program(ALL_FALLS))):
                self.refused(InvalidSize, value, cell_counts, action, value)
        for n in [1, 2, 5, 6, *GREAT]:
            self.falls(n, cell_counts, Action.of(Program(ALL_FALLS)), n)
            self.falls(n, cell_counts, Action.of(Program((EVEN_FALLS, ODD_FALLS)[n % 2])), n)


class Examples(unittest.TestCase):
    def test_the_example_of_the_document(self):
        right = Action.named("right")
        self.assertEqual(
            [round_count(WHEEL, 3), round_count(WHEEL, 10**30), cell_counts(right, 3),
             cell_counts(Action.of(LOW), 10)],
            [2, 250000000000000000000000000000000000000000000000000000000000, (1, 8, 0, 0), (10, 0, 90, 0)],
        )


if __name__ == "__main__":
    unittest.main()
