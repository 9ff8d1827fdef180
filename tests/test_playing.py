import itertools
import random
import unittest

import cases
import plays
from samples import ALL_FALLS, CHOSEN, EVEN_FALLS, LAZY, LOW, NINE, ODD_FALLS, ONE_FALLS, WHEEL
from squareloops.actions import Action
from squareloops.errors import Falls, InvalidSize, InvalidTable, NoAnswer, NotAProgram
from squareloops.playing import rounds, run
from squareloops.programs import Nest, Program
from values import no_integers, no_programs, no_tables

OUTER_BOUNDS = [
    "-1", "0", "1", "n-1", "n", "n+1", "n//2-1", "n//2", "n//2+1", "(n+1)//2-1", "(n+1)//2", "(n+1)//2+1",
]
INNER_BOUNDS = OUTER_BOUNDS + ["i-1", "i", "i+1", "n-i-1", "n-i", "n-i+1"]
DRAWN = plays.programs("playing", 60, inside=True) + plays.programs("playing any", 30)


def no_small_sizes():
    return [0, -1, 13, 14, 10 ** 30, 10 ** 39, *no_integers()]


class Rounds(unittest.TestCase):
    def check(self, program, sizes=range(1, 13)):
        for n in sizes:
            told = plays.all_rounds(program, n)
            if all(0 <= i < n and 0 <= j < n for _, i, j in told):
                self.assertEqual(list(rounds(program, n)), told, (str(program), n))
            else:
                with self.assertRaises(Falls) as caught:
                    next(rounds(program, n))
                self.assertEqual(caught.exception.size, n)
                self.assertIs(type(caught.exception.size), int)

    def test_each_bound_of_each_loop_up_and_down(self):
        for bound, other, down in itertools.product(OUTER_BOUNDS, ("0", "n", "n//2", "1"), ("", " down")):
            self.check(Program(Nest(f"{bound} to {other}{down}", "0 to i+1")))
            self.check(Program(Nest(f"{other} to {bound}{down}", "i to n down")))
        for bound, other, down in itertools.product(INNER_BOUNDS, ("0", "n", "i", "n-i"), ("", " down")):
            self.check(Program(Nest("0 to n", f"{bound} to {other}{down}")))
            self.check(Program(Nest("0 to n down", f"{other} to {bound}{down}")))
            self.check(Program(Nest("1 to n-1", f"{bound} to {other}{down}")))

    def test_chosen_and_drawn_programs(self):
        for program in CHOSEN + DRAWN:
            self.check(program)

    def test_by_hand(self):
        self.assertEqual(list(rounds(Program(), 3)), [])
        self.assertEqual(list(rounds(Program(Nest("0 to 1 down", "0 to n down")), 2)), [(0, 0, 1), (0, 0, 0)])
        both = Program(Nest("0 to n", "n-i-1 to n"), Nest("1 to n down", "0 to i"))
        self.assertEqual(
            list(rounds(both, 3)),
            [(0, 0, 2), (0, 1, 1), (0, 1, 2), (0, 2, 0), (0, 2, 1), (0, 2, 2), (1, 2, 0), (1, 2, 1), (1, 1, 0)],
        )
        self.assertEqual(list(rounds(size=2, program=WHEEL)), [(0, 0, 0)])

    def test_falls_ahead_of_all_rounds_in_whatever_nest(self):
        inside = Nest("0 to n", "0 to n")
        for nests in set(itertools.permutations([0, 0, 0, 1])):
            program = Program(*[(inside, Nest("n-1 to n", "n to n+1"))[k] for k in nests])
            for n in range(1, 13):
                with self.assertRaises(Falls) as caught:
                    next(rounds(program, n))
                self.assertEqual(caught.exception.size, n)
        # An i outside without any j is no round.
        self.assertEqual(list(rounds(Program(Nest("-1 to 0", "0 to 0"), Nest("0 to n+1", "i to n")), 1)), [(1, 0, 0)])
        self.assertEqual(list(rounds(Program(ONE_FALLS), 2)), [(0, 0, 0)])

    def test_errors_in_their_order(self):
        for value in no_programs():
            for size in (3, 0, None):
                with self.assertRaises(NotAProgram) as caught:
                    next(rounds(value, size))
                self.assertIs(caught.exception.given, value)
        for value in no_small_sizes():
            for program in (WHEEL, Program(ALL_FALLS), Program()):
                with self.assertRaises(InvalidSize) as caught:
                    next(rounds(program, value), None)
                self.assertIs(caught.exception.given, value)
        for n in range(1, 13):
            with self.assertRaises(Falls):
                list(rounds(Program(ALL_FALLS), n))

    def test_one_by_one(self):
        steps = rounds(WHEEL, 3)
        self.assertIs(iter(steps), steps)
        self.assertEqual([next(steps), next(steps), next(steps, None)], [(0, 0, 0), (0, 0, 1), None])


def one_deed(deed, loops=("0 to n", "0 to n")):
    return Program(Nest(*loops, deed))


class Run(cases.Refusing):
    def check(self, program, sizes=range(1, 13), many=6):
        action = Action.of(program)
        for n in sizes:
            for table in plays.tables("run", n, many):
                told = plays.play(program, table)
                if told is None:
                    with self.assertRaises(Falls) as caught:
                        run(program, table)
                    self.assertEqual(caught.exception.size, n)
                    self.assertIsInstance(caught.exception, NoAnswer)
                else:
                    self.assertEqual(run(program, table), told, (str(program), n))
                    self.assertEqual(action(table), told)

    def test_chosen_programs(self):
        for program in CHOSEN:
            self.check(program)

    def test_drawn_programs(self):
        for program in DRAWN:
            self.check(program, range(1, 13), 2)

    def test_each_deed_with_and_without_each_condition(self):
        draw = random.Random("deeds")
        signs = itertools.product(plays.SIGNS, itertools.permutations(plays.NUMBERS, 2))
        conditions = [""] + [f" if {left} {sign} {right}" for sign, (left, right) in signs]
        for condition, word in itertools.product(conditions, ["swap", "copy", "order", "turn"]):
            many = draw.randint(3, 8) if word == "turn" else 2
            places = " ".join(draw.sample(plays.PLACES, many))
            self.check(one_deed(f"{word} {places}{condition}"), [1, 2, 3, draw.randint(4, 12)], 3)

    def test_each_pair_of_places(self):
        for one, other in itertools.permutations(plays.PLACES, 2):
            for word in ("swap", "copy", "order"):
                self.check(one_deed(f"{word} {one} {other}"), [1, 2, 3, 4], 4)

    def test_turns_of_three_to_eight_places(self):
        draw = random.Random("turns")
        for many in range(3, 9):
            for _ in range(8):
                places = " ".join(draw.sample(plays.PLACES, many))
                self.check(one_deed(f"turn {places}", ("0 to 1", "0 to n")), [1, 2, 3, 4, 5, 12], 3)

    def test_places_that_are_one_cell(self):
        # On the diagonal i,j and j,i are one cell; what is put there later stays.
        table = ((1, 2), (3, 4))
        self.assertEqual(run(one_deed("turn i,j j,i ~i,~j", ("0 to 1", "0 to 1")), table), ((4, 2), (3, 1)))
        self.assertEqual(run(one_deed("turn ~i,~j i,j j,i", ("0 to 1", "0 to 1")), table), ((1, 2), (3, 1)))
        self.assertEqual(run(one_deed("turn i,j ~i,~j j,i", ("0 to 1", "0 to 1")), table), ((1, 2), (3, 1)))
        for deed in ("swap i,j j,i", "copy i,j j,i", "order i,j j,i"):
            self.assertEqual(run(one_deed(deed, ("0 to 1", "0 to 1")), table), table)

    def test_two_programs_joined(self):
        for one, other in zip(DRAWN[::2], DRAWN[1::2]):
            if len(one) + len(other) < 5:
                self.check(one + other, [2, 3, 7], 2)
                for n in (1, 4, 9):
                    for table in plays.tables("joined", n, 2):
                        if not plays.falls(one + other, n):
                            self.assertEqual(run(one + other, table), run(other, run(one, table)))

    def test_the_table_stays_and_names(self):
        table = ((1, 2), (3, 4))
        self.assertEqual(run(table=table, program=WHEEL), ((3, 1), (4, 2)))
        self.assertEqual(table, ((1, 2), (3, 4)))
        result = run(Program(), table)
        self.assertEqual((type(result), {type(row) for row in result}), (tuple, {tuple}))

    def test_errors_in_their_order(self):
        for value in no_programs():
            for table in (NINE, ((0,) * 13,) * 13, None):
                self.refused(NotAProgram, value, run, value, table)
        for value in no_tables():
            for program in (WHEEL, Program(ALL_FALLS), Program(EVEN_FALLS)):
                self.refused(InvalidTable, value, run, program, value)
        for n in range(1, 13):
            for nest, falls in [(ALL_FALLS, True), (EVEN_FALLS, n % 2 == 0), (ODD_FALLS, n % 2 == 1)]:
                table = ((7,) * n,) * n
                if falls:
                    self.assertRaises(Falls, run, Program(nest), table)
                else:
                    self.assertEqual(run(Program(nest), table), table)


class Examples(unittest.TestCase):
    def test_the_examples_of_the_document(self):
        self.assertEqual(run(WHEEL, ((1, 2, 3), (4, 5, 6), (7, 8, 9))), ((7, 4, 1), (8, 5, 2), (9, 6, 3)))
        self.assertEqual(run(LAZY, ((1, 2, 3), (4, 5, 6), (7, 8, 9))), ((7, 2, 1), (4, 5, 6), (9, 8, 3)))
        self.assertEqual(run(LOW, ((3, 2), (1, 0))), ((3, 1), (2, 0)))


if __name__ == "__main__":
    unittest.main()
