import random
import unittest

import cases
import plays
from samples import ALL_FALLS, CHOSEN, EVEN_FALLS, LAZY, LOW, NINE, WHEEL, same
from squareloops.actions import Action
from squareloops.errors import Falls, InvalidCell, InvalidEntry, InvalidTable, NoAnswer, NotAProgram, NothingToUndo
from squareloops.playing import Sheet, run, set_table
from squareloops.programs import Nest, Program
from values import Agreeing, Unfriendly, no_cells, no_integers, no_programs, no_tables

DRAWN = plays.programs("sheets", 40, inside=True) + plays.programs("sheets any", 40)


class Stop(Exception):
    pass


class Told:
    """A sheet told a second time: all its states in a list, the last one being that of now."""

    def __init__(self, program, table):
        self.program = program
        self.n = len(table)
        self.rounds = plays.all_rounds(program, self.n)
        self.states = [(table, 0)]

    @property
    def table(self):
        return self.states[-1][0]

    @property
    def done(self):
        return tuple(self.rounds[:self.states[-1][1]])

    def step(self):
        table, many = self.states[-1]
        if many == len(self.rounds):
            return None
        index, i, j = self.rounds[many]
        if not (0 <= i < self.n and 0 <= j < self.n):
            return "falls"
        entries = {(r, c): table[r][c] for r in range(self.n) for c in range(self.n)}
        for word, cells in plays.steps(self.program, self.n, [(index, i, j)]):
            plays.do(word, cells, entries)
        self.states.append((self.table_of(entries), many + 1))
        return index, i, j

    def set(self, cell, entry):
        entries = {(r, c): self.table[r][c] for r in range(self.n) for c in range(self.n)}
        self.states.append((self.table_of(entries | {cell: entry}), self.states[-1][1]))

    def set_table(self, table):
        self.states.append((table, self.states[-1][1]))

    def undo(self):
        if len(self.states) == 1:
            return "nothing"
        self.states.pop()
        return None

    def table_of(self, entries):
        return tuple(tuple(entries[r, c] for c in range(self.n)) for r in range(self.n))


class SheetCase(cases.Refusing):
    def alike(self, sheet, told):
        self.assertEqual((sheet.table, sheet.done, len(sheet)), (told.table, told.done, told.n))
        self.assertIs(type(sheet.table), tuple)
        self.assertIs(type(sheet.done), tuple)
        self.assertIs(bool(sheet), True)

    def step(self, sheet, told):
        answer = told.step()
        if answer == "falls":
            with self.assertRaises(Falls) as caught:
                sheet.step()
            self.assertEqual(caught.exception.size, told.n)
            self.assertIsInstance(caught.exception, NoAnswer)
        else:
            self.assertEqual(sheet.step(), answer)
        return answer

    def undo(self, sheet, told):
        if told.undo() == "nothing":
            self.assertRaises(NothingToUndo, sheet.undo)
        else:
            self.assertIsNone(sheet.undo())

    def undo_all(self, sheet, told):
        while len(told.states) > 1:
            self.undo(sheet, told)
            self.alike(sheet, told)
        for _ in range(2):
            self.assertRaises(NothingToUndo, sheet.undo)
            self.alike(sheet, told)


class Steps(SheetCase):
    def to_the_end(self, program, table):
        sheet, told = Sheet(program, table), Told(program, table)
        self.alike(sheet, told)
        answer = ""
        while answer is not None and answer != "falls":
            answer = self.step(sheet, told)
            self.alike(sheet, told)
        for _ in range(2):
            self.assertEqual(self.step(sheet, told), answer)
            self.alike(sheet, told)
        if not plays.falls(program, len(table)):
            self.assertEqual(sheet.table, plays.play(program, table))
            self.assertEqual(sheet.table, run(program, table))
            self.assertEqual(sheet.table, Action.of(program)(table))
            self.assertEqual(list(sheet.done), plays.all_rounds(program, len(table)))
        self.undo_all(sheet, told)

    def test_chosen_programs(self):
        for program in CHOSEN:
            for n in (1, 2, 3, 4, 5):
                self.to_the_end(program, plays.tables("sheet", n, 5)[n - 1])

    def test_drawn_programs(self):
        for k, program in enumerate(DRAWN):
            self.to_the_end(program, plays.tables("sheet", 1 + k % 7, 5)[k % 5])

    def test_great_tables(self):
        for program in (WHEEL, LOW, LAZY, CHOSEN[19]):
            self.to_the_end(program, plays.tables("sheet", 12, 5)[4])

    def test_falls_at_the_round_outside(self):
        program = Program(Nest("0 to n", "0 to 1", "swap i,j ~i,~j"), Nest("0 to 1", "0 to n+1"), WHEEL.nests[0])
        sheet = Sheet(program, ((1, 2), (3, 4)))
        for told in [(0, 0, 0), (0, 1, 0), (1, 0, 0), (1, 0, 1)]:
            self.assertEqual(sheet.step(), told)
        for _ in range(3):
            self.assertRaises(Falls, sheet.step)
            self.assertEqual(len(sheet.done), 4)
        sheet[0, 1] = 7
        self.assertEqual(sheet.table, ((4, 7), (2, 1)))
        self.assertRaises(Falls, sheet.step)
        sheet.undo()
        sheet.undo()
        self.assertEqual(sheet.done, ((0, 0, 0), (0, 1, 0), (1, 0, 0)))
        self.assertEqual(sheet.step(), (1, 0, 1))
        self.assertRaises(Falls, sheet.step)
        self.assertEqual(sheet.table, ((4, 3), (2, 1)))

    def test_the_first_round_outside(self):
        sheet = Sheet(Program(Nest("-1 to n", "0 to n")), NINE)
        self.assertRaises(Falls, sheet.step)
        self.assertEqual((sheet.table, sheet.done), (NINE, ()))
        self.assertRaises(NothingToUndo, sheet.undo)


class Settings(SheetCase):
    def test_entries_of_each_cell(self):
        sheet = Sheet(LOW, NINE)
        for r in range(3):
            for c in range(3):
                self.assertEqual(sheet[r, c], NINE[r][c])
                self.assertEqual(sheet[(r, c)], NINE[r][c])
                for entry in (0, -1, 10 ** 39, -10 ** 30):
                    sheet[r, c] = entry
                    self.assertEqual((sheet[r, c], sheet.table[r][c]), (entry, entry))
        self.assertEqual(sheet.done, ())

    def test_no_cell_first(self):
        for n in (1, 3, 12):
            sheet = Sheet(LOW, ((5,) * n,) * n)
            for value in [*no_cells(n), slice(0, 1), (slice(0, 1), 0)]:
                with self.assertRaises(InvalidCell) as caught:
                    sheet[value]
                self.assertIs(caught.exception.given, value)
                for entry in (1, None, True):
                    with self.assertRaises(InvalidCell) as caught:
                        sheet[value] = entry
                    self.assertIs(caught.exception.given, value)
            with self.assertRaises(InvalidCell) as caught:
                sheet[0, n] = "x"
            self.assertEqual(caught.exception.given, (0, n))
            self.unchanged(sheet, ((5,) * n,) * n)

    def unchanged(self, sheet, table):
        self.assertEqual((sheet.table, sheet.done), (table, ()))
        self.assertRaises(NothingToUndo, sheet.undo)

    def test_no_entry(self):
        sheet = Sheet(LOW, NINE)
        for value in [*no_integers(), (1, 2), NINE]:
            with self.assertRaises(InvalidEntry) as caught:
                sheet[0, 1] = value
            self.assertIs(caught.exception.given, value)
        self.unchanged(sheet, NINE)

    def test_no_table_of_the_same_size(self):
        for n in range(1, 13):
            sheet = Sheet(WHEEL, ((5,) * n,) * n)
            others = [((1,) * k,) * k for k in range(1, 14) if k != n]
            for value in [*(no_tables() if n in (1, 2, 3, 12) else []), *others]:
                with self.assertRaises(InvalidTable) as caught:
                    sheet.table = value
                self.assertIs(caught.exception.given, value)
                self.refused(InvalidTable, value, set_table, sheet, value)
            self.unchanged(sheet, ((5,) * n,) * n)

    def test_tables(self):
        sheet = Sheet(WHEEL, NINE)
        self.assertEqual(sheet.step(), (0, 0, 0))
        sheet.table = NINE
        self.assertEqual((sheet.table, sheet.done), (NINE, ((0, 0, 0),)))
        self.assertIsNone(set_table(sheet, ((0,) * 3,) * 3))
        self.assertIsNone(set_table(table=((1,) * 3,) * 3, sheet=sheet))
        self.assertEqual(sheet.step(), (0, 0, 1))
        self.assertEqual(sheet.table, ((1,) * 3,) * 3)
        sheet.undo()
        sheet.undo()
        self.assertEqual(sheet.table, ((0,) * 3,) * 3)
        sheet.undo()
        self.assertEqual(sheet.table, NINE)
        sheet.undo()
        self.assertEqual((sheet.table[0], sheet.done), ((7, 2, 1), ((0, 0, 0),)))

    def test_settings_that_change_nothing_are_taken_back_too(self):
        sheet = Sheet(WHEEL, NINE)
        sheet[0, 0] = 8
        sheet[0, 0] = 8
        sheet.table = sheet.table
        set_table(sheet, sheet.table)
        for _ in range(3):
            sheet.undo()
            self.assertEqual(sheet[0, 0], 8)
        sheet.undo()
        self.unchanged(sheet, NINE)

    def test_only_what_the_document_lists_is_set(self):
        sheet = Sheet(WHEEL, NINE)
        with self.assertRaises(AttributeError):
            sheet.done = ()
        with self.assertRaises(TypeError):
            iter(sheet)


class Mixed(SheetCase):
    def act(self, sheet, told, draw):
        """Does one thing to both."""
        n, kind = told.n, draw.choice(["step", "step", "set", "table", "undo", "wrong", "trial", "fails"])
        if kind == "step":
            self.step(sheet, told)
        elif kind == "set":
            cell, entry = (draw.randrange(n), draw.randrange(n)), draw.randint(-2, 2)
            told.set(cell, entry)
            sheet[cell] = entry
        elif kind == "table":
            table = plays.tables(str(draw.random()), n, 5)[draw.randrange(5)]
            told.set_table(table)
            sheet.table = table
        elif kind == "undo":
            self.undo(sheet, told)
        elif kind == "wrong":
            self.assertRaises(InvalidCell, lambda: sheet[0, n])
            self.assertRaises(InvalidTable, set_table, sheet, ())
        else:
            self.trial(sheet, told, draw, kind == "fails")
        self.alike(sheet, told)

    def trial(self, sheet, told, draw, fails):
        inner = Told(told.program, told.table)
        inner.states = list(told.states)

        def work(held):
            self.assertIs(held, sheet)
            for _ in range(draw.randint(0, 4)):
                self.act(held, inner, draw)
            if fails:
                raise Stop("x")
            return inner.table

        if draw.random() < 0.5:
            try:
                with sheet.trial() as held:
                    work(held)
                self.assertFalse(fails)
            except Stop:
                self.assertTrue(fails)
        elif fails:
            self.assertRaises(Stop, sheet.tried, work)
        else:
            self.assertEqual(sheet.tried(work), inner.table)

    def test_long_rows_of_all_things(self):
        for k, program in enumerate(DRAWN[::2] + CHOSEN):
            draw = random.Random(f"mixed {k}")
            table = plays.tables("mixed", 1 + k % 5, 5)[k % 5]
            sheet, told = Sheet(program, table), Told(program, table)
            for _ in range(40):
                self.act(sheet, told, draw)
            self.undo_all(sheet, told)

    def test_a_thousand_changes(self):
        sheet = Sheet(WHEEL, NINE)
        for k in range(5000):
            sheet[k % 3, 1] = k
        for k in range(5000):
            sheet.undo()
        self.assertEqual(sheet.table, NINE)
        self.assertRaises(NothingToUndo, sheet.undo)


class Trials(SheetCase):
    def test_all_is_as_it_was(self):
        sheet = Sheet(WHEEL, NINE)
        sheet.step()
        sheet[1, 1] = 0
        before = sheet.table
        with sheet.trial() as held:
            self.assertIs(held, sheet)
            for _ in range(2):
                sheet.undo()
            self.assertEqual(sheet.table, NINE)
            sheet[0, 0] = 9
            self.assertEqual(sheet.table[0], (9, 2, 3))
        self.assertEqual((sheet.table, sheet.done), (before, ((0, 0, 0),)))
        sheet.undo()
        self.assertEqual(sheet[1, 1], 5)
        sheet.undo()
        self.assertEqual(sheet.table, NINE)
        self.assertRaises(NothingToUndo, sheet.undo)

    def test_begins_with_the_rows_not_with_the_call(self):
        sheet = Sheet(WHEEL, NINE)
        trial = sheet.trial()
        sheet[0, 0] = 9
        with trial:
            sheet[0, 0] = 10
        self.assertEqual(sheet[0, 0], 9)
        sheet.undo()
        self.assertEqual(sheet[0, 0], 1)

    def test_errors_are_passed_on(self):
        sheet = Sheet(Program(ALL_FALLS), NINE)
        for error in (Stop, ValueError, KeyboardInterrupt, SystemExit, GeneratorExit):
            with self.assertRaises(error):
                with sheet.trial():
                    sheet.step()
                    sheet[0, 0] = 9
                    raise error()
            self.assertEqual((sheet.table, sheet.done), (NINE, ()))
            self.assertRaises(NothingToUndo, sheet.undo)

        def work(held):
            while True:
                held.step()

        self.assertRaises(Falls, sheet.tried, work)
        self.assertRaises(Falls, lambda: sheet.tried(work=work))
        self.assertEqual((sheet.table, sheet.done), (NINE, ()))

    def test_within_one_another(self):
        sheet = Sheet(WHEEL, NINE)
        with sheet.trial():
            sheet[0, 0] = 2
            with sheet.trial():
                sheet[0, 0] = 3
                self.assertEqual(sheet.tried(lambda held: (held.step(), held.table[0])), ((0, 0, 0), (7, 2, 3)))
                self.assertEqual(sheet[0, 0], 3)
            self.assertEqual(sheet[0, 0], 2)
            sheet.undo()
            self.assertEqual(sheet[0, 0], 1)
        self.assertEqual((sheet.table, sheet.done), (NINE, ()))

    def test_tried_returns_what_the_work_returns(self):
        sheet = Sheet(WHEEL, NINE)
        self.assertIs(sheet.tried(lambda held: held), sheet)
        self.assertIsNone(sheet.tried(lambda held: None))
        self.assertEqual(sheet.tried(len), 3)
        self.assertIs(sheet.tried(bool), True)


class Equality(unittest.TestCase):
    def test_equal_to_itself_alone(self):
        one, other = Sheet(WHEEL, NINE), Sheet(same(WHEEL), NINE)
        self.assertIs(one == one, True)
        self.assertIs(one != one, False)
        self.assertIs(one == other, False)
        self.assertIs(one != other, True)
        for value in [None, True, 0, NINE, WHEEL, "", (), Agreeing, Unfriendly]:
            self.assertIs(one == value, False)
            self.assertIs(one != value, True)

    def test_equal_arguments_equal_sheets_in_all_but_that(self):
        one, other = Sheet(WHEEL, NINE), Sheet(table=NINE, program=same(WHEEL))
        for _ in range(4):
            self.assertEqual(one.step(), other.step())
            self.assertEqual((one.table, one.done), (other.table, other.done))


class Refused(SheetCase):
    def test_program_then_table(self):
        for value in no_programs():
            for table in (NINE, (), None):
                self.refused(NotAProgram, value, Sheet, value, table)
        for value in no_tables():
            for program in (WHEEL, Program(ALL_FALLS), Program(EVEN_FALLS)):
                self.refused(InvalidTable, value, Sheet, program, value)


class Examples(unittest.TestCase):
    def test_the_example_of_the_document(self):
        from squareloops.playing import rounds
        wheel = WHEEL
        sheet = Sheet(wheel, ((1, 2, 3), (4, 5, 6), (7, 8, 9)))
        self.assertEqual(
            [list(rounds(wheel, 3)), sheet.step(), sheet.table, sheet[0, 1], sheet.step(), sheet.step(), sheet.done],
            [[(0, 0, 0), (0, 0, 1)], (0, 0, 0), ((7, 2, 1), (4, 5, 6), (9, 8, 3)), 2, (0, 0, 1), None,
             ((0, 0, 0), (0, 0, 1))],
        )


if __name__ == "__main__":
    unittest.main()
