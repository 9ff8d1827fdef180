import importlib
import inspect
import pathlib
import re
import unittest

import plays
from samples import CHOSEN, GREAT, LAZY, LOW, NAMED, NINE, WHEEL, falls, same
from squareloops import actions, books, certificates, checker, counts, errors, facts, mending, orbits, playing, programs, sizes
from squareloops.actions import Action
from squareloops.books import Book
from squareloops.playing import Sheet, rounds, run
from squareloops.programs import Nest, Program
from squareloops.sizes import Sizes

DRAWN = plays.programs("whole", 60, inside=True) + plays.programs("whole any", 20)
GRANTED = {"self": None, "cls": None}

# The parameters of all functions and methods of the document, in the order of their signatures.
PARAMETERS = {
    programs.Nest: ["outer", "inner", "*deeds"], programs.Program: ["*nests"], programs.Program.read: ["text"],
    orbits.images: ["size", "cell"], orbits.kind_of: ["size", "cell"], orbits.kinds_of: ["size"], orbits.cell_count: ["size", "kind"],
    sizes.Sizes: ["listed", "even", "odd"], sizes.Sizes.within: ["other"], sizes.Sizes.ascending: ["count"],
    playing.rounds: ["program", "size"], playing.run: ["program", "table"], playing.set_table: ["sheet", "table"],
    playing.Sheet: ["program", "table"], playing.Sheet.step: [], playing.Sheet.undo: [], playing.Sheet.trial: [], playing.Sheet.tried: ["work"],
    actions.Action.of: ["program"], actions.Action.named: ["name"], actions.Action.__call__: ["table"], actions.Action.result: ["size", "cell"],
    actions.Action.reaches: ["size", "cell"], actions.Action.times: ["power"], actions.Action.inverse: [],
    facts.agree: ["one", "other"], facts.below: ["one", "other"], facts.keeps: ["action"], facts.one_to_one: ["action"],
    facts.parting: ["one", "other"], facts.period: ["action"], counts.round_count: ["program", "size"], counts.cell_counts: ["action", "size"],
    mending.trimmed: ["program"], mending.mends: ["program", "wish", "changes"], mending.test_sizes: ["programs", "wish"],
    books.Book: [], books.Book.remove: ["name"], books.Book.wish: ["wish"], books.Book.lift: ["index"], books.Book.undo: [],
    books.Book.trial: [], books.Book.tried: ["work"], checker.accepts: ["claim", "certificate"],
    certificates.certify_falls: ["program", "size"], certificates.certify_parts: ["one", "other", "size"],
    certificates.certify_result: ["program", "size", "cell"], certificates.certify_equal: ["one", "other"],
}
METHODS = {
    programs.Nest: ["__len__", "__bool__", "__eq__", "outer", "inner", "deeds"],
    programs.Program: ["read", "__len__", "__bool__", "__eq__", "__str__", "__repr__", "__add__", "nests"],
    sizes.Sizes: ["even", "odd", "listed", "least", "__eq__", "__contains__", "__and__", "__or__", "__sub__", "__invert__", "__bool__",
                  "within", "ascending", "__str__"],
    playing.Sheet: ["step", "__getitem__", "__setitem__", "table", "done", "undo", "trial", "tried", "__len__", "__bool__"],
    actions.Action: ["of", "named", "falls", "__call__", "result", "reaches", "__rshift__", "times", "inverse", "__eq__"],
    books.Book: ["__setitem__", "__getitem__", "remove", "wish", "lift", "undo", "names", "wishes", "changes", "__contains__", "__len__",
                 "__bool__", "trial", "tried"],
}


class Interface(unittest.TestCase):
    def test_parameters(self):
        for function, names in PARAMETERS.items():
            found = []
            for name, parameter in inspect.signature(function).parameters.items():
                if name not in GRANTED:
                    found.append("*" + name if parameter.kind is parameter.VAR_POSITIONAL else name)
            self.assertEqual(found, names, function)

    def test_each_is_defined_in_its_file_and_class(self):
        for one in PARAMETERS:
            if inspect.isclass(one) or "." not in one.__qualname__:
                self.assertIs(getattr(importlib.import_module(one.__module__), one.__name__), one)
        for module in (playing, facts, counts, mending, certificates, checker, orbits):
            for function in [one for one in PARAMETERS if one.__module__ == module.__name__ and inspect.isfunction(one)]:
                self.assertEqual(function.__code__.co_filename, module.__file__)
        for owner, names in METHODS.items():
            for name in names:
                self.assertIn(name, vars(owner), owner)

    def test_no_other_errors(self):
        for name, one in vars(errors).items():
            if inspect.isclass(one):
                self.assertEqual(one.__module__, "squareloops.errors", name)


class Names(unittest.TestCase):
    def test_arguments_by_name_in_another_order(self):
        right = Action.named(name="right")
        wheel = Program.read(text=str(WHEEL))
        pairs = [
            (Nest(inner="0 to n", outer="0 to 1"), Nest("0 to 1", "0 to n")),
            (orbits.images(cell=(0, 1), size=3), orbits.images(3, (0, 1))), (orbits.kind_of(cell=(0, 1), size=3), orbits.kind_of(3, (0, 1))),
            (orbits.kinds_of(size=3), orbits.kinds_of(3)), (orbits.cell_count(kind=(0, 1, 0), size=3), 4),
            (Sizes(odd=5, even=4, listed=(1,)), Sizes((1,), even=4, odd=5)), (Sizes((1,)).within(other=Sizes((1, 2))), True),
            (list(Sizes(even=2).ascending(count=2)), [2, 4]), (list(rounds(size=3, program=wheel)), list(rounds(wheel, 3))),
            (run(table=NINE, program=wheel), run(wheel, NINE)), (Sheet(table=NINE, program=wheel).table, NINE),
            (Action.of(program=wheel)(table=NINE), run(wheel, NINE)), (right.result(cell=(0, 1), size=4), (((2, 0),),)),
            (right.reaches(cell=(2, 0), size=4), ((0, 1),)), (right.times(power=4), Action.named("same")),
            (facts.agree(other=right, one=Action.of(LAZY)), Sizes((1,), even=2)), (facts.below(other=right, one=right), Sizes(even=2, odd=1)),
            (facts.keeps(action=right), Sizes(even=2, odd=1)), (facts.one_to_one(action=right), Sizes(even=2, odd=1)),
            (facts.parting(other=right, one=Action.of(LAZY))[:2], (3, (0, 1))), (facts.period(action=right), (0, 4)),
            (counts.round_count(size=3, program=wheel), 2), (counts.cell_counts(size=3, action=right), (1, 8, 0, 0)),
            (mending.trimmed(program=wheel), wheel), (mending.mends(changes=(), wish=right, program=wheel), ((),)),
            (mending.test_sizes(wish=right, programs=(LAZY,)), (3,)), (checker.accepts(certificate=(), claim=("equal", "", "")), False),
            (certificates.certify_falls(size=3, program=wheel), None), (certificates.certify_parts(size=2, other=LAZY, one=wheel), None),
            (certificates.certify_result(cell=(0, 0), size=1, program=wheel)[1], ()), (certificates.certify_equal(other=LAZY, one=wheel), None),
        ]
        for found, told in pairs:
            self.assertEqual(found, told)

    def test_methods_of_sheets_and_books(self):
        sheet, book = Sheet(WHEEL, NINE), Book()
        playing.set_table(table=((0,) * 3,) * 3, sheet=sheet)
        self.assertEqual(sheet.tried(work=lambda one: one[0, 0]), 0)
        book["a"] = WHEEL
        book.wish(wish=("keeps", "a"))
        book.lift(index=0)
        self.assertEqual(book.tried(work=len), 1)
        book.remove(name="a")
        self.assertEqual(book.changes, 4)


class Alike(unittest.TestCase):
    def value_of(self, formula, table):
        """What a formula gives for a table."""
        return max(min(table[r][c] for r, c in cells) for cells in formula)

    def test_results_runs_sheets_and_formulas(self):
        for k, program in enumerate(CHOSEN + DRAWN):
            action = Action.of(program)
            for n in {1, 2, 3 + k % 3, 6 + k % 7}:
                if n in action.falls:
                    self.assertRaises(errors.Falls, run, program, ((0,) * n,) * n)
                    continue
                for table in plays.tables("alike", n, 6)[k % 3:k % 3 + 3]:
                    result = action(table)
                    self.assertEqual(run(program, table), result)
                    self.assertEqual(self.led_to_its_end(program, table), result)
                    told = [[self.value_of(action.result(n, (r, c)), table) for c in range(n)] for r in range(n)]
                    self.assertEqual(tuple(map(tuple, told)), result)

    def led_to_its_end(self, program, table):
        sheet = Sheet(program, table)
        while sheet.step() is not None:
            pass
        self.assertEqual(list(sheet.done), list(rounds(program, len(table))))
        self.assertEqual(len(sheet.done), counts.round_count(program, len(table)))
        return sheet.table

    def test_facts_counts_and_certificates(self):
        for k, program in enumerate(CHOSEN + DRAWN):
            action, n = Action.of(program), GREAT[k % len(GREAT)]
            self.assertIs(n in action.falls, certificates.certify_falls(program, n) is not None)
            self.assertIs(n in action.falls, falls(program, n))
            self.assertTrue(facts.one_to_one(action).within(facts.keeps(action)))
            self.assertEqual(facts.agree(action, Action.of(mending.trimmed(program))), Sizes(even=2, odd=1))
            parting = facts.parting(action, Action.named("same"))
            if parting is not None and parting[0] < 13:
                pair = certificates.certify_parts(program, Program(), parting[0])
                self.assertIs(checker.accepts(*pair), True)
                self.assertIs(checker.accepts(pair[0], parting[2] or ((0,) * parting[0],) * parting[0]), True)
            self.assertIs(parting is None, certificates.certify_equal(program, Program()) is not None)

    def test_equal_arguments_give_equal_results(self):
        for program in CHOSEN:
            one, other = Action.of(program), Action.of(same(program))
            self.assertTrue(one == other)
            self.assertEqual(mending.trimmed(program), mending.trimmed(same(program)))
            self.assertEqual(certificates.certify_equal(program, LOW), certificates.certify_equal(same(program), same(LOW)))
            self.assertEqual(mending.test_sizes((program,), one), ())

    def test_named_programs(self):
        for name, program in NAMED.items():
            self.assertIsNone(facts.parting(Action.of(program), Action.named(name)))
            self.assertEqual(mending.mends(program, Action.named(name), ()), ((),))
            self.assertEqual(mending.test_sizes((program,) * 8, Action.named(name)), ())


class Readme(unittest.TestCase):
    def test_what_it_shows_runs(self):
        text = (pathlib.Path(__file__).resolve().parent.parent / "README.md").read_text(encoding="utf-8")
        shown = re.findall(r"```python\n(.*?)```", text, re.DOTALL)
        self.assertTrue(shown)
        exec("\n".join(shown), {"print": lambda *values: None})


if __name__ == "__main__":
    unittest.main()
