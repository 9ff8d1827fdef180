import functools
import itertools
import math
import random
import unittest

import cases
import plays
from samples import ALL_FALLS, CHOSEN, EVEN_FALLS, FAR, GREAT, LAZY, LOW, ODD_FALLS, ONE_FALLS, WHEEL
from samples import bits_of, cells_at, falls, same, table_of
from squareloops.actions import Action
from squareloops.errors import NotAnAction
from squareloops.facts import agree, below, keeps, one_to_one, parting, period
from squareloops.programs import Nest, Program
from squareloops.sizes import Sizes
from values import no_actions

DRAWN = plays.programs("facts", 40, nests=2, inside=True) + plays.programs("facts any", 12, nests=2)
SIZES = range(1, 12)
right = Action.named("right")


@functools.lru_cache(maxsize=None)
def action_of(text):
    return Action.of(Program.read(text))


def played(program, n):
    """For each cell a number that tells its entry behind all plays with a 1 only in images of
    one cell; None if it falls."""
    return plays.whole_play(str(program), n)


def pairs():
    """Programs of which some agree and some do not."""
    draw = random.Random("pairs")
    drawn = [(draw.choice(DRAWN), draw.choice(DRAWN)) for _ in range(40)]
    nearly = [(program, Program(*program.nests[:-1])) for program in DRAWN if program.nests]
    return [*itertools.product(CHOSEN[2:31:3], CHOSEN[::4]), *drawn, *nearly, *[(one, one) for one in CHOSEN]]


def told_agree(one, other, n):
    return played(one, n) == played(other, n)


def told_below(one, other, n):
    first, second = played(one, n), played(other, n)
    if first is None or second is None:
        return False
    return all(first[cell] & ~second[cell] == 0 for cell in first)


def told_keeps(program, n):
    """Whether each table with a 1 only in images of one cell has as many ones as its result."""
    behind = played(program, n)
    if behind is None:
        return False
    for cells in {tuple(plays.images(n, cell)) for cell in behind}:
        for k, row in enumerate(itertools.product((0, 1), repeat=len(cells))):
            if sum(behind[cell] >> k & 1 for cell in cells) != sum(row):
                return False
    return True


class FactCase(cases.Refusing):
    def same_sizes(self, sizes, told, text):
        """That a set has just the sizes up to 11 told, and behind them goes on by parity."""
        self.assertIs(type(sizes), Sizes)
        for n in SIZES:
            self.assertIs(n in sizes, told(n), (text, n))
        for n in GREAT:
            self.assertIs(n in sizes, told(10 + n % 2), (text, n))
        for tail in (sizes.even, sizes.odd):
            self.assertTrue(tail is None or tail <= 11)


class Agree(FactCase):
    def test_against_all_plays(self):
        for one, other in pairs():
            sizes = agree(action_of(str(one)), action_of(str(other)))
            self.same_sizes(sizes, lambda n: told_agree(one, other, n), (str(one), str(other)))
            self.assertEqual(agree(action_of(str(other)), action_of(str(one))), sizes)
            equal = action_of(str(one)) == action_of(str(other))
            self.assertIs(equal, str(sizes) == "even from 2, odd from 1")

    def test_with_any_entries(self):
        for one, other in pairs():
            sizes = agree(action_of(str(one)), action_of(str(other)))
            for n in (2, 3, 7, 12):
                results = [[plays.play(program, table) for table in plays.tables("any", n, 3)] for program in (one, other)]
                if n in sizes:
                    self.assertEqual(*results)
                elif results[0][0] is None or results[1][0] is None:
                    self.assertNotEqual(*results)

    def test_at_sizes_behind_the_deciding_ones(self):
        for one, other in pairs()[::9]:
            sizes = agree(action_of(str(one)), action_of(str(other)))
            for n in (12, 13):
                self.assertIs(n in sizes, told_agree(one, other, n))

    def test_by_hand(self):
        told = [
            (LAZY, "right", "1, even from 2"), (WHEEL, "right", "even from 2, odd from 1"), (WHEEL, "left", "1"),
            (Program(EVEN_FALLS), "same", "odd from 1"), (Program(ALL_FALLS), "same", "none"),
            (Program(ONE_FALLS), "same", "none"), (Program(Nest(*FAR, "swap i,j j,i")), "same", None),
        ]
        for program, name, text in told:
            if text is not None:
                self.assertEqual(str(agree(Action.of(program), Action.named(name))), text)
                self.assertEqual(str(agree(other=Action.of(program), one=Action.named(name))), text)
        far = agree(Action.of(told[-1][0]), Action.named("same"))
        self.assertEqual(str(far), "1, 2, 3, 4, 5, 6, 7, 8, 9")
        both = Program(EVEN_FALLS, Nest("0 to n", "0 to n", "copy i,j j,i"))
        self.assertEqual(str(agree(Action.of(both), Action.of(Program(EVEN_FALLS)))), "1, even from 2")
        never = agree(Action.of(Program(ALL_FALLS)), Action.of(Program(EVEN_FALLS, ODD_FALLS)))
        self.assertEqual(str(never), "even from 2, odd from 1")


class Below(FactCase):
    def test_against_all_plays(self):
        for one, other in pairs():
            sizes = below(action_of(str(one)), action_of(str(other)))
            self.same_sizes(sizes, lambda n: told_below(one, other, n), (str(one), str(other)))

    def test_lesser_and_greater(self):
        less = Program(Nest("0 to n", "0 to n", "order i,j ~i,~j"))
        least = less + Program(Nest("0 to n", "0 to n//2", "copy i,j ~i,~j"))
        more = Program(Nest("0 to n", "0 to n//2", "order ~i,~j i,j", "copy i,j ~i,~j"))
        for one, other, text in [
            (least, Program(), None), (Program(), more, None), (more, Program(), None),
            (Program(), Program(), "even from 2, odd from 1"), (Program(ALL_FALLS), Program(ALL_FALLS), "none"),
            (Program(EVEN_FALLS), Program(), "odd from 1"), (Program(), Program(ODD_FALLS), "even from 2"),
        ]:
            sizes = below(Action.of(one), other=Action.of(other))
            self.same_sizes(sizes, lambda n: told_below(one, other, n), (str(one), str(other)))
            if text is not None:
                self.assertEqual(str(sizes), text)

    def test_with_any_entries(self):
        draw = random.Random("below")
        found = []
        for one, other in pairs()[::2]:
            first, second = action_of(str(one)), action_of(str(other))
            n = draw.randint(1, 6)
            if n in first.falls or n in second.falls:
                continue
            tables = plays.tables(str(one), n, 5)
            less = [
                all(a <= b for rows in zip(first(table), second(table)) for a, b in zip(*rows)) for table in tables
            ]
            found.append(n in below(first, second))
            if found[-1]:
                self.assertEqual(less, [True] * 5)
        self.assertEqual({True, False}, set(found))


class KeepsAndOneToOne(FactCase):
    def test_against_all_plays(self):
        for program in CHOSEN + DRAWN:
            action = action_of(str(program))
            self.same_sizes(keeps(action), lambda n: told_keeps(program, n), str(program))
            self.same_sizes(one_to_one(action), lambda n: plays.is_one_to_one(program, n), str(program))
            self.assertTrue(one_to_one(action).within(keeps(action)))

    def test_against_all_tables_of_two_rows(self):
        tables = [(row[:2], row[2:]) for row in itertools.product(range(3), repeat=4)]
        for program in CHOSEN + DRAWN[:20]:
            if plays.falls(program, 2):
                continue
            results = [plays.play(program, table) for table in tables]
            kept = all(sorted(sum(one, ())) == sorted(sum(other, ())) for one, other in zip(tables, results))
            self.assertIs(2 in keeps(action_of(str(program))), kept)
            self.assertIs(2 in one_to_one(action_of(str(program))), len(set(results)) == len(tables))

    def test_with_any_entries(self):
        for program in CHOSEN + DRAWN:
            for n in (3, 6, 9, 12):
                if n in keeps(action_of(str(program))):
                    for table in plays.tables("kept", n, 5):
                        self.assertEqual(sorted(sum(plays.play(program, table), ())), sorted(sum(table, ())))

    def test_by_hand(self):
        all_sizes = "even from 2, odd from 1"
        told = [
            (WHEEL, all_sizes, all_sizes), (LAZY, all_sizes, all_sizes), (LOW, all_sizes, "1"),
            (Program(ALL_FALLS), "none", "none"), (Program(EVEN_FALLS), "odd from 1", "odd from 1"),
            (Program(Nest("0 to n", "0 to n", "copy i,j j,i")), "1", "1"),
        ]
        for program, kept, moved in told:
            self.assertEqual(str(keeps(action=Action.of(program))), kept)
            self.assertEqual(str(one_to_one(action=Action.of(program))), moved)
        for name in ("same", "transpose", "slant", "upside", "mirror", "half", "right", "left"):
            self.assertEqual(str(keeps(Action.named(name))), all_sizes)
            self.assertEqual(str(one_to_one(Action.named(name))), all_sizes)


class Parting(FactCase):
    def fewest(self, one, other, n, cell):
        """The least number of ones for which the results differ in a cell."""
        cells = plays.images(n, cell)
        first, second = played(one, n)[cell], played(other, n)[cell]
        rows = list(itertools.product((0, 1), repeat=len(cells)))
        return min(sum(row) for k, row in enumerate(rows) if (first ^ second) >> k & 1)

    def check(self, one, other):
        text = (str(one), str(other))
        told = [n for n in SIZES if not told_agree(one, other, n)]
        found = parting(action_of(str(one)), action_of(str(other)))
        if not told:
            self.assertIsNone(found, text)
            return None
        size, cell, table = found
        self.assertEqual((size, type(found), type(size)), (told[0], tuple, int), text)
        first, second = played(one, size), played(other, size)
        if first is None or second is None:
            self.assertEqual((cell, table), (None, None))
            return "falls"
        self.assertEqual(cell, min(at for at in cells_at(size) if first[at] != second[at]), text)
        ones = [at for at in cells_at(size) if table[at[0]][at[1]] == 1]
        self.assertEqual(table, table_of(size, ones))
        self.assertEqual(len(ones), self.fewest(one, other, size, cell))
        (r, c), results = cell, [plays.play(program, table) for program in (one, other)]
        self.assertNotEqual(results[0][r][c], results[1][r][c])
        return size

    def test_against_all_plays(self):
        found = [self.check(one, other) for one, other in pairs()]
        self.assertLessEqual({None, "falls", 2, 3}, set(found))

    def test_at_the_last_deciding_sizes(self):
        self.assertEqual(self.check(Program(Nest(*FAR, "swap i,j j,i")), Program()), 10)
        self.assertEqual(self.check(Program(EVEN_FALLS, Nest(*FAR, "copy i,j j,i")), Program(EVEN_FALLS)), 11)
        self.assertEqual(self.check(Program(ODD_FALLS, Nest(*FAR, "copy i,j j,i")), Program(ODD_FALLS)), 10)

    def test_more_ones_than_one(self):
        # The least entry of several is the same as another one if only one of them is 1.
        orders = ["order i,j ~i,j", "order i,j i,~j", "order i,j ~i,~j"]
        for many in range(1, 4):
            program = Program(Nest("0 to 1", "0 to 1", *orders[:many]))
            zero = Program(Nest("0 to 1", "0 to 1", *orders, "order i,j ~i,~j", "order i,j i,~j"))
            self.check(program, Program())
            self.check(program, zero)
        self.assertEqual(parting(Action.of(LOW), Action.named("same")), (2, (0, 1), ((0, 1), (0, 0))))

    def test_by_name(self):
        self.assertEqual(parting(other=right, one=Action.of(LAZY))[:2], (3, (0, 1)))
        self.assertEqual(parting(right, Action.of(Program(ALL_FALLS))), (1, None, None))
        self.assertEqual(parting(Action.of(Program(ONE_FALLS)), Action.named("same")), (1, None, None))
        self.assertIsNone(parting(Action.of(Program(ALL_FALLS)), Action.of(Program(EVEN_FALLS, ODD_FALLS))))


def told_period(program):
    """The tail and the period from plays repeated on all entries 0 and 1 of each kind."""
    tails, periods = [0], [1]
    for n in SIZES:
        if plays.falls(program, n):
            continue
        for cell in [(r, c) for r in range((n + 1) // 2) for c in range(r, (n + 1) // 2)]:
            step = plays.plays_at(str(program), n, cell)
            for entries in bits_of(len(plays.images(n, cell))):
                seen = []
                while entries not in seen:
                    seen.append(entries)
                    entries = step[entries]
                tails.append(seen.index(entries))
                periods.append(len(seen) - seen.index(entries))
    return max(tails), math.lcm(*periods)


class Period(FactCase):
    def test_against_repeated_play(self):
        found = []
        for program in CHOSEN + DRAWN[::2]:
            found.append(period(action_of(str(program))))
            self.assertEqual(found[-1], told_period(program), str(program))
        self.assertGreater(len(set(found)), 4)

    def test_is_the_least(self):
        for program in CHOSEN + DRAWN:
            action = action_of(str(program))
            tail, many = period(action)
            self.assertTrue(action.times(tail + many) == action.times(tail))
            if tail:
                self.assertFalse(action.times(tail - 1 + many) == action.times(tail - 1))
            for prime in (2, 3, 5, 7):
                if many % prime == 0:
                    self.assertFalse(action.times(tail + many // prime) == action.times(tail))

    def test_great_powers_are_told_by_it(self):
        both = [
            Program(Nest("0 to 1", "1 to n//2", "turn i,j j,i i,~j", "order ~i,~j ~j,~i")),
            Program(Nest("0 to 1", "1 to n//2", "turn i,j j,i i,~j ~j,i ~i,j", "copy ~j,~i ~i,~j", "copy j,~i ~j,~i")),
        ]
        self.assertEqual([period(Action.of(program)) for program in both], [(1, 3), (2, 5)])
        for program in both + CHOSEN + DRAWN[::3]:
            action = action_of(str(program))
            tail, many = period(action)
            for power in (250, 299, 300, 301, 302, 1000, 10 ** 30 - 1, 10 ** 30):
                same_power = tail + (power - tail) % many
                done = action.times(0)
                for _ in range(same_power if same_power < 20 else 0):
                    done = done >> action
                self.assertTrue(action.times(power) == (done if same_power < 20 else action.times(same_power)))

    def test_long_periods_and_tails(self):
        eight = "turn i,j j,i i,~j ~j,i ~i,j j,~i ~i,~j ~j,~i"
        told = [
            (Program(), (0, 1)), (WHEEL, (0, 4)), (LOW, (1, 1)), (Program(ALL_FALLS), (0, 1)),
            (Program(EVEN_FALLS), (0, 1)), (Program(EVEN_FALLS, ODD_FALLS, *WHEEL.nests), (0, 1)),
            (Program(Nest("0 to 1", "1 to n//2", eight)), (0, 8)),
            (Program(Nest("0 to 1", "1 to n//2", "turn i,j j,i i,~j ~j,i ~i,j", "turn j,~i ~i,~j ~j,~i")), (0, 15)),
            (Program(Nest("0 to 1", "1 to n//2", "turn i,j j,i i,~j", "turn ~j,i ~i,j j,~i ~i,~j ~j,~i"),
                     Nest("1 to n//2", "i+1 to n//2", "turn i,j j,i i,~j ~j,i ~i,j j,~i ~i,~j")), (0, 105)),
        ]
        for program, pair in told:
            self.assertEqual(period(Action.of(program)), pair, str(program))
            self.assertEqual(told_period(program), pair)
            self.assertEqual([type(number) for number in period(action=Action.of(program))], [int, int])
        # Each time the least entry comes one image further.
        places = ["i,j", "j,i", "i,~j", "~j,i", "~i,j", "j,~i", "~i,~j", "~j,~i"]
        along = [f"copy {one} {other}" for other, one in zip(places[1:], places)][::-1]
        slow = Program(Nest("0 to 1", "1 to n//2", *along[:6]), Nest("0 to 1", "1 to n//2", *along[6:]))
        self.assertEqual(period(Action.of(slow)), (7, 1))
        self.assertEqual(period(Action.of(slow).times(3)), (3, 1))

    def test_named_actions(self):
        told = {"same": 1, "transpose": 2, "slant": 2, "upside": 2, "mirror": 2, "half": 2, "right": 4, "left": 4}
        for name, many in told.items():
            self.assertEqual(period(Action.named(name)), (0, many))


class Refused(FactCase):
    def test_each_argument_in_its_order(self):
        other = Action.of(WHEEL)
        for value in no_actions():
            for function in (agree, below, parting):
                self.refused(NotAnAction, value, function, value, other)
                self.refused(NotAnAction, value, function, value, None)
                self.refused(NotAnAction, value, function, other, value)
                self.refused(NotAnAction, value, lambda: function(other=object(), one=value))
            for function in (keeps, one_to_one, period):
                self.refused(NotAnAction, value, function, value)
        self.refused(NotAnAction, WHEEL, keeps, WHEEL)

    def test_equal_arguments_give_equal_results(self):
        for program in CHOSEN:
            one, other = Action.of(program), Action.of(same(program))
            for function in (keeps, one_to_one, period):
                self.assertEqual(function(one), function(other))
            for function in (agree, below, parting):
                self.assertEqual(function(one, right), function(other, Action.named("right")))
            self.assertIsNone(parting(one, other))
            self.assertIs(falls(program, 10 ** 30) or 10 ** 30 in below(one, other), True)


class Examples(unittest.TestCase):
    def test_the_examples_of_the_document(self):
        wheel, lazy, low = WHEEL, LAZY, LOW
        self.assertEqual(
            [str(agree(Action.of(lazy), right)), str(keeps(Action.of(lazy))), period(right),
             parting(Action.of(lazy), right)[:2], parting(Action.of(wheel), right)],
            ['1, even from 2', 'even from 2, odd from 1', (0, 4), (3, (0, 1)), None],
        )
        self.assertEqual(
            [str(Action.of(Program(Nest("0 to n", "i to n+1", "swap i,j j,i"))).falls), str(Action.of(low).falls)],
            ['even from 2, odd from 1', 'none'],
        )


if __name__ == "__main__":
    unittest.main()
