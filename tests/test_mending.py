import itertools
import random
import unittest

import cases
import plays
from samples import ALL_FALLS, CHOSEN, EVEN_FALLS, FAR, LAZY, LOW, NAMED, ODD_FALLS, ONE_FALLS, WHEEL
from samples import changed, equal_in_plays
from squareloops import mending
from squareloops.actions import Action
from squareloops.errors import InvalidChanges, InvalidPrograms, NotAnAction, NotAProgram, WrongValue
from squareloops.facts import agree
from squareloops.mending import mends, trimmed
from squareloops.programs import Nest, Program
from values import Agreeing, Unfriendly, no_actions, no_programs

DRAWN = plays.programs("mending", 40, nests=3, inside=True) + plays.programs("mending any", 10)
right = Action.named("right")


class MendingCase(cases.Refusing):
    def refused_at(self, error, index, function, *values):
        with self.assertRaises(error) as caught:
            function(*values)
        self.assertEqual(caught.exception.index, index, values)
        self.assertIs(type(caught.exception.index), type(index))
        self.assertIsInstance(caught.exception, WrongValue)


def told_trimmed(program):
    """The program without the deeds that can be left out one by one."""
    rows = [[nest.outer, nest.inner, *nest.deeds] for nest in program.nests]
    for nest in rows:
        at = 2
        while at < len(nest):
            deed = nest.pop(at)
            if not equal_in_plays(Program(*[Nest(*row) for row in rows]), program):
                nest.insert(at, deed)
                at += 1
    return Program(*[Nest(*row) for row in rows])


class Trimmed(MendingCase):
    def check(self, program):
        short = trimmed(program)
        self.assertIs(type(short), Program)
        self.assertEqual(str(short), str(told_trimmed(program)))
        self.assertTrue(Action.of(short) == Action.of(program))
        self.assertEqual([(nest.outer, nest.inner) for nest in short.nests],
                         [(nest.outer, nest.inner) for nest in program.nests])
        return sum(len(nest) for nest in program.nests) - sum(len(nest) for nest in short.nests)

    def test_chosen_programs(self):
        for program in CHOSEN:
            self.check(program)

    def test_drawn_programs(self):
        left_out = [self.check(program) for program in DRAWN]
        self.assertIn(0, left_out)
        self.assertGreater(max(left_out), 2)

    def test_the_order_counts(self):
        # One of two equal deeds that take each other back can stay only together with the other.
        twice = Program(Nest("0 to 1", "0 to 1", "swap i,j ~i,~j", "swap i,j ~i,~j"))
        self.assertEqual(len(trimmed(twice).nests[0]), 2)
        three = Program(Nest("0 to n", "0 to n", "copy i,j j,i", "copy i,j j,i", "order i,j i,~j"))
        self.check(three)
        # The first copy can be left out because of the second one, which then stays.
        copies = Program(Nest("0 to 1", "0 to 1", "copy i,j ~i,~j"), Nest("0 to 1", "0 to 1", "copy i,j ~i,~j"))
        self.assertEqual([len(nest) for nest in trimmed(program=copies).nests], [0, 1])

    def test_nests_stay(self):
        for nest in (ALL_FALLS, EVEN_FALLS, Nest("0 to n", "0 to n", "swap i,j j,i"), Nest("0 to n", "0 to n")):
            short = trimmed(Program(nest, nest))
            self.assertEqual([(row.outer, row.inner, row.deeds) for row in short.nests], [(nest.outer, nest.inner, ())] * 2)
        self.assertEqual(trimmed(Program()), Program())
        self.assertEqual(trimmed(WHEEL), WHEEL)

    def test_no_program(self):
        for value in no_programs():
            self.refused(NotAProgram, value, trimmed, value)


def told_mends(program, wish, changes):
    """All least sets from trying all sets; the wish is a program here."""
    def is_right(indexes):
        chosen = [changes[index] for index in indexes]
        parts = [(nest, part) for nest, part, _ in chosen]
        return len(set(parts)) == len(parts) and Action.of(changed(program, chosen)) == Action.of(wish)

    sets = [row for many in range(len(changes) + 1) for row in itertools.combinations(range(len(changes)), many)]
    right_ones = [row for row in sets if is_right(row)]
    return tuple(row for row in right_ones if not any(set(other) < set(row) for other in right_ones))


def random_change(draw, program):
    nest = draw.randrange(len(program.nests))
    part = draw.choice(["outer", "inner", *range(len(program.nests[nest]))])
    if part == "outer":
        return nest, part, draw.choice(plays.OUTER_LOOPS)
    return nest, part, draw.choice(plays.INNER_LOOPS) if part == "inner" else plays.random_deed(draw)


def part_of(program, nest, part):
    rows = program.nests[nest]
    return {"outer": rows.outer, "inner": rows.inner}[part] if isinstance(part, str) else rows.deeds[part]


class Mends(MendingCase):
    def check(self, program, wish, changes):
        found = mends(program, Action.of(wish), changes)
        self.assertEqual(found, told_mends(program, wish, changes), (str(program), changes))
        for row in found:
            self.assertIs(type(row), tuple)
        return found

    def test_programs_that_were_changed(self):
        draw = random.Random("changed")
        found = []
        for program in DRAWN + CHOSEN + [Program(*program.nests) for program in NAMED.values()] * 3:
            if not program.nests:
                continue
            wrong, back = program, []
            for _ in range(draw.randint(0, 3)):
                change = random_change(draw, program)
                if change[:2] not in [one[:2] for one in back]:
                    back.append((*change[:2], part_of(program, *change[:2])))
                    wrong = changed(wrong, [change])
            more = [random_change(draw, wrong) for _ in range(draw.randint(0, 3))]
            changes = back + more + draw.choices(back, k=draw.randint(0, 2)) if back else more
            draw.shuffle(changes)
            found.append(self.check(wrong, program, tuple(changes[:6])))
        self.assertLessEqual({0, 1, 2}, {len(row) for sets in found for row in sets} | {len(sets) for sets in found})
        self.assertGreater(max(len(sets) for sets in found), 2)

    def test_small_changes(self):
        changes = [
            (0, "inner", "0 to (n+1)//2"), (0, "outer", "0 to n"), (0, "inner", "i to n-i-1"), (0, "outer", "0 to (n+1)//2"),
            (0, 0, "turn i,j j,~i ~i,~j ~j,i if i != j"), (0, "inner", "0 to n//2 down"), (0, 0, "swap i,j j,i"),
            (0, "outer", "0 to n+1"),
        ]
        for many in range(7):
            for k in range(3):
                some = tuple(random.Random(f"{many} {k}").choices(changes, k=many))
                self.check(LAZY, WHEEL, some)
                self.check(WHEEL, WHEEL, some)

    def test_as_wished_without_any_change(self):
        self.assertEqual(mends(WHEEL, right, ((0, "outer", "0 to n"), (0, "outer", "0 to n//2"))), ((),))
        self.assertEqual(mends(WHEEL, right, ()), ((),))
        self.assertEqual(mends(LAZY, right, ()), ())
        self.assertEqual(mends(Program(), Action.named("same"), ()), ((),))
        self.assertEqual(mends(Program(), right, ()), ())

    def test_the_same_part_and_the_same_change_several_times(self):
        change = (0, "inner", "i to n-i-1")
        self.assertEqual(mends(LAZY, right, (change,) * 6), tuple((index,) for index in range(6)))
        self.assertEqual(mends(LAZY, right, (change, (0, "inner", "0 to n"), change)), ((0,), (2,)))
        both = Program(Nest("0 to 1", "0 to 1", "swap i,j ~i,j", "swap i,j ~i,~j"))
        wish = Action.of(Program(Nest("0 to 1", "0 to 1", "copy i,j ~i,j", "copy i,j ~i,~j")))
        rows = ((0, 1, "copy i,j ~i,~j"), (0, 0, "copy i,j ~i,j"), (0, 0, "copy i,j ~i,j"), (0, 1, "order i,j j,i"))
        self.assertEqual(mends(both, wish, rows), ((0, 1), (0, 2)))

    def test_more_than_two_and_sets_of_different_lengths(self):
        three = Program(*[Nest("0 to 1", "0 to 1", f"copy i,j {place}") for place in ("~i,j", "i,~j", "~i,~j")])
        changes = ((0, 0, "swap i,j ~i,~j"), (1, 0, "swap i,j ~i,~j"), (2, 0, "swap i,j j,i"), (0, "inner", "0 to 0"),
                   (1, "outer", "n to n"), (2, "inner", "i to i"))
        found = self.check(three, Program(), changes)
        self.assertEqual(found, ((0, 1, 2), (0, 1, 5), (2, 3, 4), (3, 4, 5)))
        self.assertEqual({len(row) for row in found}, {3})
        loops = ((0, "outer", "0 to (n+1)//2"), (0, "inner", "i to n-i-1"), (0, "outer", "0 to n"), (0, "inner", "0 to (n+1)//2"))
        self.assertEqual(self.check(LAZY, WHEEL, loops), ((0,), (1,), (3,)))
        mirrored = ((0, "inner", "n-i to i+1"), (0, "outer", "(n+1)//2 to n"), (0, "inner", "i to n-i-1"))
        self.assertEqual(self.check(LAZY, WHEEL, mirrored), ((2,), (0, 1)))

    def test_changes_that_make_a_program_fall(self):
        changes = ((0, "outer", "0 to n+1"), (0, "inner", "-1 to n"))
        # Each of them alone does not let it fall at size 1.
        self.assertEqual(self.check(WHEEL, Program(ALL_FALLS), changes), ((0, 1),))
        self.assertEqual(self.check(LAZY, Program(ALL_FALLS), changes), ((0, 1),))
        self.assertEqual(self.check(LOW, Program(ALL_FALLS), changes), ((0,), (1,)))
        self.assertEqual(self.check(LAZY, WHEEL, changes), ())

    def test_errors_in_their_order(self):
        for value in no_programs():
            self.refused(NotAProgram, value, mends, value, None, None)
        for value in no_actions():
            self.refused(NotAnAction, value, mends, WHEEL, value, None)
        for value in [None, True, 0, "", "outer", [], [(0, "outer", "0 to n")], {}, {1}, object(), Unfriendly(), Agreeing()]:
            self.refused_at(InvalidChanges, None, mends, WHEEL, right, value)

    def test_no_changes(self):
        fine = (0, "inner", "i to n-i-1")
        deeds = WHEEL.nests[0].deeds
        values = [
            None, True, 0, "", "outer", (), (0, "outer"), (0, "outer", "0 to n", 0), [0, "outer", "0 to n"], {}, fine[:2],
            (1, "outer", "0 to n"), (-1, "outer", "0 to n"), (True, "outer", "0 to n"), (False, "outer", "0 to n"),
            (None, "outer", "0 to n"), ("0", "outer", "0 to n"), ((0,), "outer", "0 to n"), (0, "Outer", "0 to n"),
            (0, "middle", "0 to n"), (0, "0", deeds[0]), (0, 1, deeds[0]), (0, -1, deeds[0]), (0, False, deeds[0]),
            (0, None, deeds[0]), (0, (0,), deeds[0]), (0, Unfriendly(), deeds[0]), (0, Agreeing(), "0 to n"), (Agreeing(), "outer", "0 to n"),
            (0, "outer", "i to n"), (0, "outer", "0 to n-i"), (0, "outer", "0  to n"), (0, "outer", deeds[0]), (0, "outer", None),
            (0, "outer", ("0 to n",)), (0, "inner", "2 to n"), (0, "inner", deeds[0]), (0, "inner", 0), (0, "inner", Agreeing()),
            (0, 0, "0 to n"), (0, 0, "swap i,j i,j"), (0, 0, "swap i,j"), (0, 0, None), (0, 0, b"swap i,j j,i"), (0, 0, Unfriendly()),
            (fine,), Unfriendly(), Agreeing(), 10 ** 30, (10 ** 30, "outer", "0 to n"), (0, 10 ** 30, deeds[0]),
        ]
        for value in values:
            self.refused_at(InvalidChanges, 0, mends, WHEEL, right, (value,))
            self.refused_at(InvalidChanges, 2, mends, WHEEL, right, (fine, fine, value, None))
            self.refused_at(InvalidChanges, 5, mends, WHEEL, right, (fine,) * 5 + (value, value))
            self.refused_at(InvalidChanges, 6, mends, WHEEL, right, (fine,) * 6 + (value,))
        self.refused_at(InvalidChanges, 6, mends, WHEEL, right, (fine,) * 7)
        self.refused_at(InvalidChanges, 6, mends, WHEEL, right, (fine,) * 20)
        self.refused_at(InvalidChanges, 0, mends, Program(), right, (fine,))
        self.refused_at(InvalidChanges, 0, mends, Program(Nest("0 to n", "0 to n")), right, ((0, 0, deeds[0]),))

    def test_by_name(self):
        self.assertEqual(mends(changes=((0, "inner", "i to n-i-1"),), wish=right, program=LAZY), ((0,),))


def told_sizes(programs, wish):
    wrong = [program for program in programs if Action.of(program) != wish]
    agreeing = [agree(Action.of(program), wish) for program in wrong]
    for many in range(12):
        for row in itertools.combinations(range(1, 12), many):
            if all(any(n not in sizes for n in row) for sizes in agreeing):
                return row
    return None


# Programs that are wrong at a few sizes alone: their rounds come only there.
def at_sizes():
    loops = [("n//2 to (n+1)//2", "0 to 1"), ("(n+1)//2 to n//2+1", "0 to 1"), ("n-1 to 1", "0 to 1"), ("n//2 to 1", "0 to n"),
             FAR, ("n//2+1 to n-1", "n-i to n//2"), ("1 to n//2", "n//2-1 to i"), ("n-1 to n//2+1", "0 to n"), ("(n+1)//2 to n-1", "n-i+1 to n//2")]
    deeds = ["swap i,j ~i,~j", "copy i,j ~i,j", "order i,j i,~j", "swap i,j j,i if i != ~j"]
    return [Program(Nest(*pair, deed)) for pair in loops for deed in deeds]


class TestSizes(MendingCase):
    def check(self, programs, wish):
        found = mending.test_sizes(programs, wish)
        self.assertEqual(found, told_sizes(programs, wish), [str(program) for program in programs])
        self.assertIs(type(found), tuple)
        return found

    def test_drawn_rows(self):
        draw = random.Random("sizes")
        pool = at_sizes() + CHOSEN + DRAWN[:10] + [Program(nest) for nest in (EVEN_FALLS, ODD_FALLS, ONE_FALLS)]
        found = set()
        for _ in range(120):
            name = draw.choice(["same", "same", "same", "right", "transpose"])
            found.add(self.check(tuple(draw.choices(pool, k=draw.randint(0, 8))), Action.named(name)))
        self.assertLessEqual({0, 1, 2}, {len(row) for row in found})

    def test_rows_of_rare_programs(self):
        draw = random.Random("rare")
        found = {self.check(tuple(draw.sample(at_sizes(), draw.randint(1, 8))), Action.named("same")) for _ in range(60)}
        self.assertGreater(max(len(row) for row in found), 1)

    def test_by_hand(self):
        self.assertEqual(mending.test_sizes((), right), ())
        self.assertEqual(mending.test_sizes((WHEEL, WHEEL), right), ())
        self.assertEqual(mending.test_sizes((LAZY, WHEEL), right), (3,))
        same = Action.named("same")
        self.assertEqual(mending.test_sizes((Program(EVEN_FALLS), Program(ODD_FALLS)), same), (1, 2))
        self.assertEqual(mending.test_sizes((Program(ONE_FALLS),), Action.of(Program(Nest("0 to 1", "0 to 1", "swap i,j ~i,~j")))), (1,))
        self.assertEqual(mending.test_sizes(wish=same, programs=(Program(Nest(*FAR, "swap i,j j,i")), LOW)), (10,))

    def test_errors_in_their_order(self):
        for value in [None, True, 0, "", [], [WHEEL], {}, WHEEL, object(), Unfriendly(), Agreeing()]:
            self.refused_at(InvalidPrograms, None, mending.test_sizes, value, None)
        for value in no_programs():
            for many in range(8):
                self.refused_at(InvalidPrograms, many, mending.test_sizes, (WHEEL,) * many + (value, value), None)
            self.refused_at(InvalidPrograms, 8, mending.test_sizes, (WHEEL,) * 8 + (value,), None)
        self.refused_at(InvalidPrograms, 8, mending.test_sizes, (WHEEL,) * 9, right)
        self.refused_at(InvalidPrograms, 8, mending.test_sizes, (LAZY,) * 30, None)
        for value in no_actions():
            self.refused(NotAnAction, value, mending.test_sizes, (), value)
            self.refused(NotAnAction, value, mending.test_sizes, (LAZY,) * 8, value)


class Examples(unittest.TestCase):
    def test_the_examples_of_the_document(self):
        lazy, wheel = LAZY, WHEEL
        changes = ((0, "inner", "0 to (n+1)//2"), (0, "outer", "0 to n"), (0, "inner", "i to n-i-1"))
        self.assertEqual(
            [mends(lazy, right, changes), mending.test_sizes((lazy, wheel), right)], [((0,), (2,)), (3,)],
        )
        self.assertEqual(len(trimmed(Program(Nest("0 to n", "0 to n", "swap i,j j,i"))).nests[0]), 0)


if __name__ == "__main__":
    unittest.main()
