import functools
import itertools
import random
import unittest

import plays
from squareloops.actions import Action
from squareloops.errors import Falls, NoAnswer, NotOneToOne
from squareloops.programs import Nest, Program
from squareloops.sizes import Sizes
from test_actions import CHOSEN, CONDITIONS, LAZY, LOW, WHEEL
from values import Agreeing, Unfriendly

# A nest that only reaches cells which stand in tables of 10 rows or more, two that fall at
# even and at odd sizes alone.
FAR = "n//2 to n-1", "n-i+1 to n//2-1"
EVEN_FALLS = Nest("(n+1)//2 to n//2+1", "-1 to 0")
ODD_FALLS = Nest("n//2 to (n+1)//2", "-1 to 0")
FAR_PROGRAMS = [
    Program(Nest(*FAR, "swap i,j j,i")), Program(Nest(*FAR, "copy i,j j,i")), Program(Nest(*FAR, "order i,j j,i")),
    Program(EVEN_FALLS, Nest(*FAR, "copy i,j j,i")), Program(ODD_FALLS, Nest(*FAR, "copy i,j j,i")),
    Program(EVEN_FALLS), Program(ODD_FALLS), Program(EVEN_FALLS, ODD_FALLS),
    Program(EVEN_FALLS, ODD_FALLS, Nest("0 to n", "0 to n", "copy i,j j,i")),
]
DRAWN = plays.programs("composed", 40, nests=2, inside=True)
SIZES = range(1, 12)


def nearly(program, draw):
    """A program with one nest more or less, or with one part of a nest that is another one."""
    nests = list(program.nests)
    at = draw.randrange(len(nests) + 1)
    other = plays.random_program(draw, nests=1, inside=True).nests
    if at == len(nests):
        return Program(*nests[:3], *other)
    nest = nests[at]
    part = draw.choice(["outer", "inner", "deed", "less", "bare"])
    if part == "less":
        return Program(*nests[:at], *nests[at + 1:])
    deeds = list(nest.deeds)
    if deeds and part == "deed":
        deeds[draw.randrange(len(deeds))] = plays.random_deed(draw)
    outer = other[0].outer if other and part == "outer" else nest.outer
    inner = other[0].inner if other and part == "inner" else nest.inner
    changed = Nest(outer, inner, *(deeds if part != "bare" else ()))
    return Program(*nests[:at], changed, *nests[at + 1:])


@functools.lru_cache(maxsize=None)
def action_of(text):
    return Action.of(Program.read(text))


def equal_in_plays(one, other):
    return all(plays.whole_play(str(one), n) == plays.whole_play(str(other), n) for n in SIZES)


def play_often(program, table, times):
    """The table behind so many plays, also if these are very many."""
    seen = [table]
    while len(seen) <= times:
        table = plays.play(program, table)
        if table in seen:
            start = seen.index(table)
            return seen[start + (times - start) % (len(seen) - start)]
        seen.append(table)
    return seen[times]


def tables_at_a_cell(n, draw, many):
    """Tables with entries 0 and 1 in which 1 stands only in images of one cell."""
    for _ in range(many):
        cells = plays.images(n, (draw.randrange(n), draw.randrange(n)))
        ones = draw.sample(cells, draw.randint(1, len(cells)))
        yield tuple(tuple(int((r, c) in ones) for c in range(n)) for r in range(n))


class Equality(unittest.TestCase):
    def check(self, one, other):
        told = equal_in_plays(one, other)
        left, right = action_of(str(one)), action_of(str(other))
        self.assertIs(left == right, told, (str(one), str(other)))
        self.assertIs(left != right, not told)
        return told

    def test_programs_and_nearly_the_same(self):
        draw = random.Random("nearly")
        found = [self.check(program, nearly(program, draw)) for program in DRAWN + DRAWN]
        self.assertIn(True, found)
        self.assertIn(False, found)

    def test_chosen_programs(self):
        for one, other in itertools.combinations_with_replacement(CHOSEN[:14] + FAR_PROGRAMS, 2):
            self.check(one, other)

    def test_conditions(self):
        for one, other in itertools.combinations(CONDITIONS, 2):
            self.check(one, other)

    def test_parts_at_great_sizes_only(self):
        self.assertTrue(equal_in_plays(Program(), Program(Nest(*FAR))))
        self.assertIsNot(plays.whole_play(str(FAR_PROGRAMS[0]), 10), plays.whole_play("", 10))
        for n in range(1, 10):
            self.assertEqual(plays.whole_play(str(FAR_PROGRAMS[0]), n), plays.whole_play("", n))
        self.assertFalse(Action.of(FAR_PROGRAMS[0]) == Action.named("same"))
        self.assertFalse(Action.of(Program(EVEN_FALLS)) == Action.of(FAR_PROGRAMS[3]))

    def test_what_is_done_where_it_falls_does_not_count(self):
        nest = Nest("0 to n", "0 to n", "copy i,j j,i")
        never = Program(EVEN_FALLS, ODD_FALLS)
        self.assertTrue(Action.of(never) == Action.of(never + Program(nest)))
        self.assertEqual(str(Action.of(never).falls), "even from 2, odd from 1")
        # Rounds that reach other cells than the middle one at even, and at odd sizes alone.
        at_even = Nest("0 to n", "n//2 to n//2+1", "copy i,j j,i if ~i == j")
        at_odd = Nest("0 to n", "n//2 to n//2+1", "copy i,j j,i if j == ~j")
        for falls, nest, equal in [(EVEN_FALLS, at_even, True), (EVEN_FALLS, at_odd, False),
                                   (ODD_FALLS, at_odd, True), (ODD_FALLS, at_even, False)]:
            self.assertIs(self.check(Program(falls), Program(falls, nest)), equal)
            self.assertFalse(Action.of(Program()) == Action.of(Program(nest)))

    def test_with_named_actions(self):
        programs = {
            "same": Program(), "transpose": Program(Nest("0 to n", "0 to i", "swap i,j j,i")),
            "slant": Program(Nest("0 to n", "0 to n-i-1", "swap i,j ~j,~i")),
            "upside": Program(Nest("0 to n//2", "0 to n", "swap i,j ~i,j")),
            "mirror": Program(Nest("0 to n down", "0 to n//2", "swap i,j i,~j")),
            "half": Program(Nest("0 to n//2", "0 to n", "swap i,j ~i,j"), Nest("0 to n", "0 to n//2", "swap i,j i,~j")),
            "right": WHEEL, "left": WHEEL + WHEEL + WHEEL,
        }
        for (name, program), other in itertools.product(programs.items(), programs):
            self.assertIs(Action.of(program) == Action.named(other), name == other)
            self.assertIs(Action.named(other) == Action.of(program), name == other)
            self.assertIs(Action.named(other) != Action.of(program), name != other)

    def test_equals_no_value_of_another_class(self):
        for value in [None, True, 1, "", str(WHEEL), WHEEL, WHEEL.nests, (), [], {}, Sizes(), Agreeing(), Unfriendly()]:
            self.assertIs(Action.of(WHEEL) == value, False)
            self.assertIs(Action.of(WHEEL) != value, True)

    def test_never_changes(self):
        action = Action.of(WHEEL)
        with self.assertRaises(AttributeError):
            action.falls = Sizes((1,))
        action >> Action.of(LOW)
        action.times(3)
        action.inverse()
        self.assertTrue(action == Action.named("right"))


class InTurn(unittest.TestCase):
    def check(self, one, other, sizes):
        both = Action.of(one) >> Action.of(other)
        self.assertIs(type(both), Action)
        self.assertEqual(both.falls, Action.of(one).falls | Action.of(other).falls)
        for n in sizes:
            for table in plays.tables("in turn", n, 3):
                told = plays.play(one, table)
                told = told if told is None else plays.play(other, told)
                if told is None:
                    self.assertIn(n, both.falls)
                    self.assertRaises(Falls, lambda: both(table))
                else:
                    self.assertEqual(both(table), told)

    def test_drawn_programs(self):
        for one, other in zip(DRAWN[::2], DRAWN[1::2]):
            self.check(one, other, range(1, 13))

    def test_chosen_programs(self):
        for one, other in itertools.product([WHEEL, LAZY, LOW, CHOSEN[10], *FAR_PROGRAMS[3:7]], repeat=2):
            self.check(one, other, [1, 2, 3, 4, 10, 11])

    def test_as_of_the_sum_of_programs(self):
        for one, other in zip(DRAWN, DRAWN[1:]):
            self.assertTrue(Action.of(one) >> Action.of(other) == Action.of(one + other))

    def test_moves_of_entries_and_others_as_of_the_programs_joined(self):
        slant = Program(Nest("0 to n", "0 to n-i-1", "swap i,j ~j,~i"))
        copies = Program(Nest("0 to n down", "0 to n", "copy i,j ~i,j if i != ~j"))
        sorts = Program(Nest("0 to n", "0 to n", "order i,j j,i", "order i,j ~i,j", "order i,j i,~j"))
        both_ways = Program(Nest("0 to n//2", "0 to n", "turn i,j j,i ~i,~j", "order i,~j ~j,i if j <= ~i"))
        moving, more = [WHEEL, LAZY, slant, copies], [LOW, sorts, both_ways, CHOSEN[13]]
        draw = random.Random("joined")
        for one, other in itertools.product(moving + more, repeat=2):
            both, joined = Action.of(one) >> Action.of(other), one + other
            self.assertTrue(both == Action.of(joined))
            for n in range(1, 13):
                for table in [*plays.tables("joined", n, 2), *tables_at_a_cell(n, draw, 2)]:
                    self.assertEqual(both(table), plays.play(joined, table))
                row = draw.randrange(n)
                cell = row, draw.randrange(n)
                self.assertEqual(both.result(n, cell), plays.formula(joined, n, cell))
                self.assertEqual(both.reaches(n, cell), plays.reached(joined, n, cell))

    def test_formulas_of_two(self):
        for one, other in [(LOW, WHEEL), (WHEEL, LOW), (LAZY, LOW), (CHOSEN[13], LAZY)]:
            both = Action.of(one) >> Action.of(other)
            for n, cell in [(3, (0, 1)), (10, (1, 3)), (10 ** 30, (5, 10 ** 29))]:
                self.assertEqual(both.result(n, cell), plays.formula(one + other, n, cell))
                self.assertEqual(both.reaches(n, cell), plays.reached(one + other, n, cell))


class Powers(unittest.TestCase):
    def test_small_powers(self):
        for program in [*DRAWN[:16], WHEEL, LAZY, LOW, *FAR_PROGRAMS]:
            action = Action.of(program)
            done = action.times(0)
            for power in range(5):
                self.assertTrue(action.times(power) == done)
                self.assertEqual(action.times(power).falls, action.falls)
                done = done >> action

    def test_zero_leaves_every_table_and_falls(self):
        for program in [WHEEL, LAZY, LOW, *FAR_PROGRAMS, *DRAWN[:8]]:
            none = Action.of(program).times(0)
            for n in range(1, 13):
                for table in plays.tables("zero", n, 2):
                    if plays.falls(program, n):
                        self.assertRaises(Falls, lambda: none(table))
                    else:
                        self.assertEqual(none(table), table)
        self.assertTrue(Action.of(LOW).times(0) == Action.named("same"))
        self.assertFalse(Action.of(FAR_PROGRAMS[5]).times(0) == Action.named("same"))

    def test_great_powers(self):
        draw = random.Random("powers")
        for program in [*DRAWN, WHEEL, LAZY, LOW, *CHOSEN[-8:]]:
            for power in (1, 2, 7, draw.randint(10, 1000), 10 ** 30 - 1, 10 ** 30):
                n = draw.randint(1, 11)
                if plays.falls(program, n):
                    continue
                often = Action.of(program).times(power)
                for table in tables_at_a_cell(n, draw, 4):
                    self.assertEqual(often(table), play_often(program, table, power))

    def test_by_name_and_at_great_sizes(self):
        often = Action.of(WHEEL).times(power=10 ** 30 - 3)
        self.assertEqual(often.result(10 ** 30, (0, 1)), (((10 ** 30 - 2, 0),),))
        self.assertEqual(often.reaches(10 ** 30, (10 ** 30 - 2, 0)), ((0, 1),))


class Inverses(unittest.TestCase):
    def check(self, program):
        action = Action.of(program)
        falls = [n for n in SIZES if plays.falls(program, n)]
        many = [n for n in SIZES if n not in falls and not plays.is_one_to_one(program, n)]
        if many:
            with self.assertRaises(NotOneToOne) as caught:
                action.inverse()
            self.assertEqual(caught.exception.size, many[0])
            self.assertIs(type(caught.exception.size), int)
            self.assertIsInstance(caught.exception, NoAnswer)
            return many[0]
        back = action.inverse()
        self.assertEqual(back.falls, action.falls)
        self.assertTrue(action >> back == action.times(0) == back >> action)
        for n in [n for n in range(1, 13) if n not in action.falls]:
            for table in plays.tables("inverse", n, 2):
                self.assertEqual(back(action(table)), table)
                self.assertEqual(action(back(table)), table)
        return None

    def test_moving_programs(self):
        draw = random.Random("moving")
        loops = ["0 to n//2", "0 to n", "0 to i", "i+1 to n", "i to n-i-1", "1 to n-1", "n//2 to n", "0 to 1"]
        deeds = ["swap i,j j,i", "swap i,j ~i,j", "turn i,j j,~i ~i,~j ~j,i", "swap i,j ~i,~j if i < j",
                 "turn i,j ~i,j ~i,~j if i != ~j", "turn j,i ~i,j i,~j if i < ~i", "copy i,j i,~j if ~i == j"]
        found = []
        for _ in range(60):
            outer, inner = draw.choice([loop for loop in loops if "i" not in loop]), draw.choice(loops)
            found.append(self.check(Program(Nest(outer, inner, *draw.choices(deeds, k=2)))))
        self.assertIn(None, found)
        self.assertGreater(len(set(found)), 3)

    def test_drawn_and_chosen_programs(self):
        for program in DRAWN + CHOSEN:
            self.check(program)

    def test_the_least_size(self):
        told = [None, 10, 10, 11, 10, None, None, None, None]
        self.assertEqual([self.check(program) for program in FAR_PROGRAMS], told)

    def test_of_other_actions(self):
        right = Action.named("right")
        both = Action.of(WHEEL) >> Action.named("mirror")
        self.assertTrue((both >> both.inverse()) == Action.named("same"))
        self.assertTrue(right.times(7).inverse() == right)
        with self.assertRaises(NotOneToOne) as caught:
            (Action.of(LOW) >> right).inverse()
        self.assertEqual(caught.exception.size, 2)
        with self.assertRaises(NotOneToOne) as caught:
            (Action.of(Program(Nest("0 to n", "0 to n", "copy i,j j,i"))) >> Action.of(Program(EVEN_FALLS))).inverse()
        self.assertEqual(caught.exception.size, 3)


if __name__ == "__main__":
    unittest.main()
