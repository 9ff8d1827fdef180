import functools
import random
import unittest

import cases
import plays
from samples import ALL_FALLS, CHOSEN, EVEN_FALLS, FAR, LAZY, LOW, NAMED, ODD_FALLS, ONE_FALLS, WHEEL, same
from squareloops.books import Book
from squareloops.errors import Broken, InUse, InvalidIndex, InvalidName, InvalidWish, NoAnswer, NotAProgram
from squareloops.errors import NothingToUndo, UnknownName, WrongName, WrongValue
from squareloops.programs import Nest, Program
from values import Agreeing, Unfriendly, nested, no_integers, no_programs, no_strings

SIZES = range(1, 12)
LESS = Program(Nest("0 to n", "0 to n", "order i,j ~i,~j", "copy i,j ~i,~j if i < ~i"))
POOL = [
    WHEEL, LAZY, LOW, Program(), *NAMED.values(), Program(EVEN_FALLS), Program(ODD_FALLS), Program(ALL_FALLS),
    Program(ONE_FALLS), Program(Nest("0 to n", "0 to n", "copy i,j j,i")), LESS, *CHOSEN[:12],
    Program(Nest(*FAR, "order i,j j,i")), Program(Nest(*FAR, "copy i,j j,i")), *plays.programs("books", 8, nests=2, inside=True),
]


class Stop(Exception):
    pass


@functools.lru_cache(maxsize=None)
def is_below(one, other, n):
    first, second = plays.whole_play(one, n), plays.whole_play(other, n)
    if first is None or second is None:
        return first is None and second is None
    return all(first[cell] & ~second[cell] == 0 for cell in first)


@functools.lru_cache(maxsize=None)
def is_kept(text, n):
    behind = plays.whole_play(text, n)
    if behind is None:
        return False
    for cells in {tuple(plays.images(n, cell)) for cell in behind}:
        rows = [[behind[cell] >> k & 1 for cell in cells] for k in range(1 << len(cells))]
        if any(sum(row) != bin(k).count("1") for k, row in enumerate(rows)):
            return False
    return True


def is_broken(wish, programs, n):
    """Whether a wish is broken at a size, from plays of the programs under the names."""
    one, other = [str(NAMED[name] if name in NAMED else programs[name]) for name in (wish[1], wish[-1])]
    if wish[0] == "does":
        return plays.whole_play(one, n) != plays.whole_play(other, n)
    if wish[0] == "below":
        return not is_below(one, other, n)
    return plays.whole_play(one, n) is None if wish[0] == "stands" else not is_kept(one, n)


def first_broken(wishes, programs):
    for index, wish in enumerate(wishes):
        for n in SIZES:
            if is_broken(wish, programs, n):
                return Broken, (index, n)
    return None


class Told:
    """A book told a second time: all its states in a list, the last one being that of now."""

    def __init__(self):
        self.states = [({}, ())]

    @property
    def programs(self):
        return self.states[-1][0]

    @property
    def wishes(self):
        return self.states[-1][1]

    def change(self, programs, wishes):
        """Makes a change, or returns the error that it leads to."""
        wrong = first_broken(wishes, programs)
        if wrong is None:
            self.states.append((programs, wishes))
        return wrong

    def put(self, name, program):
        return self.change({**self.programs, name: program}, self.wishes)

    def remove(self, name):
        if name not in self.programs:
            return UnknownName, name
        for index, wish in enumerate(self.wishes):
            if name in wish[1:]:
                return InUse, index
        return self.change({k: v for k, v in self.programs.items() if k != name}, self.wishes)

    def wish(self, wish):
        for place, name in enumerate(wish[1:]):
            if name not in self.programs and (place == 0 or name not in NAMED):
                return UnknownName, name
        return self.change(self.programs, self.wishes + (wish,))

    def lift(self, index):
        if not 0 <= index < len(self.wishes):
            return InvalidIndex, index
        return self.change(self.programs, self.wishes[:index] + self.wishes[index + 1:])

    def undo(self):
        if len(self.states) == 1:
            return NothingToUndo, None
        self.states.pop()
        return None


class BookCase(cases.Refusing):
    def alike(self, book, told):
        self.assertEqual((book.names, book.wishes), (tuple(sorted(told.programs)), told.wishes))
        self.assertEqual((book.changes, len(book)), (len(told.states) - 1, len(told.programs)))
        self.assertEqual([type(one) for one in (book.names, book.wishes)], [tuple] * 2)
        self.assertIs(bool(book), True)
        for name, program in told.programs.items():
            self.assertIs(book[name], program)
            self.assertIs(name in book, True)

    def same_answer(self, told, function, *values):
        """That a call leads to the same as what was told: None or an error with its attributes."""
        if told is None:
            self.assertIsNone(function(*values))
            return
        error, worth = told
        with self.assertRaises(error) as caught:
            function(*values)
        self.assertIs(type(caught.exception), error)
        shown = vars(caught.exception)
        if error is Broken:
            self.assertEqual((shown["index"], shown["size"]), worth)
            self.assertEqual([type(number) for number in shown.values()], [int, int])
        else:
            self.assertEqual(list(shown.values()), [] if error is NothingToUndo else [worth])

    def unchanged(self, book, programs=0, wishes=(), changes=0):
        self.assertEqual((len(book), book.wishes, book.changes), (programs, wishes, changes))


def put(book, name, program):
    book[name] = program


class Programs(BookCase):
    def test_names_of_all_lengths(self):
        book = Book()
        names = ["a", "z", "ab", "a0", "z9", "abcdefgh", "a2345678", "x1y2z3", "samex", "sam", "does", "keeps", "rights", "upsid"]
        for k, name in enumerate(names):
            book[name] = POOL[k]
            self.assertIs(book[name], POOL[k])
            self.assertEqual((len(book), book.changes), (k + 1, k + 1))
        self.assertEqual(book.names, tuple(sorted(names)))
        for name in names:
            self.assertIsNone(book.remove(name))
            self.assertNotIn(name, book)
            with self.assertRaises(UnknownName):
                book[name]
        self.unchanged(book, changes=2 * len(names))

    def test_no_names(self):
        book = Book()
        book["a"] = WHEEL
        words = ["", "A", "1", "1a", "Ab", "aB", "a b", " a", "a ", "a\n", "a_b", "_a", "a-", "abcdefghi", "a" * 4000, "~a", "i,j"]
        for value in [*words, *NAMED, *no_strings(), ("a",), ["a"], Agreeing(), nested(10), 10 ** 39]:
            for program in (WHEEL, None):
                self.refused(InvalidName, value, put, book, value, program)
            self.unchanged(book, 1, changes=1)
        for value in no_programs():
            self.refused(NotAProgram, value, put, book, "a", value)
            self.refused(NotAProgram, value, put, book, "b", value)
        self.unchanged(book, 1, changes=1)
        self.assertIs(book["a"], WHEEL)

    def test_unknown_names(self):
        book = Book()
        book["a"] = WHEEL
        for value in ["b", "", "A", "aa", *NAMED, *no_strings(), ("a",), ["a"], Agreeing(), b"a", slice(0, 1)]:
            for function in (book.remove, lambda value: book[value]):
                with self.assertRaises(UnknownName) as caught:
                    function(value)
                self.assertIs(caught.exception.given, value)
                self.assertIsInstance(caught.exception, WrongName)
            self.assertIs(value in book, False)
            self.assertIs(value not in book, True)
        self.unchanged(book, 1, changes=1)
        self.assertIs("a" in book, True)

    def test_each_change_counts(self):
        book = Book()
        book["a"] = WHEEL
        book["a"] = WHEEL
        book["a"] = same(WHEEL)
        self.unchanged(book, 1, changes=3)
        book.undo()
        self.assertIs(book["a"], WHEEL)
        book.undo()
        book.undo()
        self.unchanged(book)
        self.assertRaises(NothingToUndo, book.undo)
        with self.assertRaises(TypeError):
            iter(book)
        for name in ("names", "wishes", "changes"):
            with self.assertRaises(AttributeError):
                setattr(book, name, ())

    def test_equal_to_itself_alone(self):
        one, other = Book(), Book()
        self.assertIs(one == one, True)
        self.assertIs(one != one, False)
        self.assertIs(one == other, False)
        self.assertIs(one != other, True)
        for value in [None, True, 0, (), {}, "", Book, Unfriendly]:
            self.assertIs(one == value, False)
            self.assertIs(one != value, True)
        self.assertIs(bool(one), True)


class Wishes(BookCase):
    def test_no_wishes(self):
        book = Book()
        book["a"] = WHEEL
        values = [
            None, True, 0, "", "does", ("does",), ("does", "a"), ("does", "a", "a", "a"), ("below", "a"), ("below",), (),
            ("keeps",), ("keeps", "a", "a"), ("stands",), ("stands", "a", "a"), ["does", "a", "a"], ["keeps", "a"], {"keeps": "a"},
            ("Does", "a", "a"), ("does ", "a", "a"), ("is", "a", "a"), (b"does", "a", "a"), (None, "a", "a"), (True, "a"),
            ("a", "does", "a"), ("keep", "a"), (("keeps",), "a"), (["keeps"], "a"), (Agreeing(), "a"), (Agreeing(), "a", "a"),
            (Unfriendly(), "a"), Unfriendly(), Agreeing(), (("keeps", "a"),), ("below", "keeps", "a", "a"), nested(10), "keeps a",
        ]
        for value in values:
            with self.assertRaises(InvalidWish) as caught:
                book.wish(value)
            self.assertIs(caught.exception.given, value)
            self.assertIsInstance(caught.exception, WrongValue)
        self.unchanged(book, 1, changes=1)

    def test_unknown_names_first_then_second(self):
        book = Book()
        book["a"], book["b"] = WHEEL, LAZY
        names = ["c", "A", "", "same ", *no_strings(), ["a"], ("a",), Agreeing(), 10 ** 39, WHEEL]
        for word in ("does", "below"):
            for value in [*names, *NAMED]:
                for other in ("a", "c", None, "right"):
                    self.unknown(book, value, (word, value, other))
            for value in names:
                self.unknown(book, value, (word, "a", value))
        for word in ("keeps", "stands"):
            for value in [*names, *NAMED]:
                self.unknown(book, value, (word, value))
        self.unchanged(book, 2, changes=2)

    def unknown(self, book, value, wish):
        with self.assertRaises(UnknownName) as caught:
            book.wish(wish)
        self.assertIs(caught.exception.given, value)

    def test_each_form_on_each_pair(self):
        draw = random.Random("forms")
        for one in POOL:
            book, told = Book(), Told()
            for name, program in [("a", one), ("b", draw.choice(POOL)), ("c", same(one))]:
                self.same_answer(told.put(name, program), put, book, name, program)
            for wish in [("keeps", "a"), ("stands", "a"), ("does", "a", "c"), ("below", "a", "c"), ("does", "a", "a"),
                         ("does", "a", "b"), ("below", "a", "b"), ("below", "b", "a"), ("does", "a", draw.choice(list(NAMED))),
                         ("below", "a", draw.choice(list(NAMED))), ("below", "b", "same"), ("keeps", "b"), ("stands", "b")]:
                self.same_answer(told.wish(wish), book.wish, wish)
                self.alike(book, told)

    def test_named_actions_in_the_place_of_the_second(self):
        book = Book()
        for name, program in NAMED.items():
            book["p"] = program
            book.wish(("does", "p", name))
            book.wish(("below", "p", name))
            for other in NAMED:
                if other != name:
                    with self.assertRaises(Broken) as caught:
                        book.wish(("does", "p", other))
                    self.assertEqual((caught.exception.index, caught.exception.size), (2, 2))
            book.lift(1)
            book.lift(0)

    def test_where_both_fall(self):
        book = Book()
        book["even"], book["all"], book["none"] = Program(EVEN_FALLS), Program(ALL_FALLS), Program()
        book.wish(("does", "even", "even"))
        book.wish(("below", "all", "all"))
        book.wish(("below", "even", "even"))
        for wish, size in [(("below", "even", "none"), 2), (("below", "none", "even"), 2), (("does", "all", "none"), 1),
                           (("below", "all", "even"), 1), (("stands", "even"), 2), (("keeps", "even"), 2), (("stands", "all"), 1)]:
            self.same_answer((Broken, (3, size)), book.wish, wish)
        book["odd"] = Program(ODD_FALLS)
        for wish, size in [(("stands", "odd"), 1), (("keeps", "odd"), 1), (("below", "odd", "same"), 1), (("does", "odd", "even"), 1)]:
            self.same_answer((Broken, (3, size)), book.wish, wish)
        book["all"] = Program(EVEN_FALLS, ODD_FALLS)
        self.assertEqual(len(book.wishes), 3)

    def test_the_last_deciding_sizes(self):
        book = Book()
        book["far"], book["copies"] = Program(Nest(*FAR, "order i,j j,i")), Program(ODD_FALLS, Nest(*FAR, "copy i,j j,i"))
        self.same_answer((Broken, (0, 10)), book.wish, ("does", "far", "same"))
        self.same_answer((Broken, (0, 10)), book.wish, ("below", "far", "same"))
        self.same_answer((Broken, (0, 1)), book.wish, ("keeps", "copies"))
        book["copies"] = Program(Nest(*FAR, "copy i,j j,i"))
        self.same_answer((Broken, (0, 10)), book.wish, ("keeps", "copies"))

    def test_the_wishes_are_the_same_tuples(self):
        book = Book()
        book["a"] = WHEEL
        wish = ("keeps", "a")
        book.wish(wish)
        book.wish(wish=wish)
        self.assertIs(book.wishes[0], wish)
        self.assertEqual(book.wishes, (wish, wish))

    def test_putting_breaks_the_first_wish(self):
        book = Book()
        book["a"], book["b"] = WHEEL, WHEEL
        for wish in [("stands", "b"), ("keeps", "a"), ("stands", "a"), ("does", "a", "b"), ("does", "b", "right")]:
            book.wish(wish)
        for name, program, told in [
            ("a", Program(ALL_FALLS), (1, 1)), ("a", LAZY, (3, 3)), ("b", LAZY, (3, 3)), ("b", Program(EVEN_FALLS), (0, 2)),
            ("a", Program(Nest("0 to n", "0 to n", "copy i,j j,i")), (1, 2)), ("a", LOW, (3, 2)), ("a", Program(ONE_FALLS), (1, 1)),
        ]:
            self.same_answer((Broken, told), put, book, name, program)
            self.assertEqual((book["a"], book["b"], book.changes), (WHEEL, WHEEL, 7))
        book["a"] = same(WHEEL)
        self.assertEqual(book.changes, 8)
        with self.assertRaises(NoAnswer):
            book["a"] = LAZY

    def test_a_programs_name_in_use(self):
        book = Book()
        book["a"], book["b"], book["c"] = WHEEL, WHEEL, LAZY
        for wish in [("keeps", "c"), ("does", "a", "right"), ("does", "a", "b"), ("stands", "b")]:
            book.wish(wish)
        for name, index in [("a", 1), ("b", 2), ("c", 0)]:
            with self.assertRaises(InUse) as caught:
                book.remove(name)
            self.assertEqual(caught.exception.index, index)
            self.assertIs(type(caught.exception.index), int)
            self.assertIsInstance(caught.exception, WrongName)
        self.assertEqual(book.changes, 7)
        book.lift(0)
        self.assertIsNone(book.remove(name="c"))
        book.lift(index=1)
        book.lift(1)
        book.remove("b")
        self.assertEqual((book.names, book.wishes), (("a",), (("does", "a", "right"),)))

    def test_names_that_are_words_of_wishes(self):
        book = Book()
        for name in ("keeps", "does", "a"):
            book[name] = WHEEL
        for wish in [("keeps", "a"), ("does", "a", "right"), ("stands", "keeps")]:
            book.wish(wish)
        self.assertIsNone(book.remove("does"))
        self.same_answer((InUse, 2), book.remove, "keeps")
        self.same_answer((InUse, 0), book.remove, "a")
        book["does"] = Program(ALL_FALLS)
        self.same_answer((Broken, (2, 1)), put, book, "keeps", Program(ALL_FALLS))

    def test_no_index(self):
        book = Book()
        for many in range(3):
            for value in [many, many + 1, -1, -many, 10 ** 30, -10 ** 30, *no_integers()]:
                if type(value) is int and 0 <= value < many:
                    continue
                with self.assertRaises(InvalidIndex) as caught:
                    book.lift(value)
                self.assertIs(caught.exception.given, value)
            self.assertEqual(len(book.wishes), many)
            book["a"] = WHEEL
            book.wish(("keeps", "a"))


class Mixed(BookCase):
    NAMES = ("a", "b", "c1", "wheel")

    def act(self, book, told, draw, depth=0):
        name, program = draw.choice(self.NAMES), draw.choice(POOL)
        word = draw.choice(["put", "put", "put", "wish", "wish", "lift", "remove", "undo", "trial", "fails"])
        if word == "put":
            self.same_answer(told.put(name, program), put, book, name, program)
        elif word == "wish":
            form = draw.choice(["does", "below", "keeps", "stands", "stands"])
            other = draw.choice([*self.NAMES, *self.NAMES, *NAMED])
            wish = (form, name) if form in ("keeps", "stands") else (form, name, other)
            self.same_answer(told.wish(wish), book.wish, wish)
        elif word == "lift":
            index = draw.randint(0, 3)
            self.same_answer(told.lift(index), book.lift, index)
        elif word == "remove":
            self.same_answer(told.remove(name), book.remove, name)
        elif word == "undo":
            self.same_answer(told.undo(), book.undo)
        elif depth < 3:
            self.trial(book, told, draw, word == "fails", depth)
        self.alike(book, told)

    def trial(self, book, told, draw, fails, depth):
        kept = list(told.states)

        def work(held):
            self.assertIs(held, book)
            for _ in range(draw.randint(0, 5)):
                self.act(held, told, draw, depth + 1)
            if fails:
                raise Stop("x")
            return len(told.states)

        if draw.random() < 0.5:
            try:
                with book.trial() as held:
                    work(held)
                self.assertFalse(fails)
            except Stop:
                self.assertTrue(fails)
        elif fails:
            self.assertRaises(Stop, book.tried, work)
        else:
            self.assertEqual(book.tried(work), len(told.states))
        if fails:
            told.states[:] = kept

    def test_long_rows_of_changes(self):
        for k in range(40):
            draw = random.Random(f"books {k}")
            book, told = Book(), Told()
            for _ in range(60):
                self.act(book, told, draw)
            while len(told.states) > 1:
                self.same_answer(told.undo(), book.undo)
                self.alike(book, told)
            self.same_answer(told.undo(), book.undo)


class Undone(BookCase):
    def test_every_kind_of_change(self):
        book = Book()
        book["a"] = WHEEL
        book["b"] = LAZY
        for wish in [("keeps", "a"), ("stands", "b"), ("does", "a", "right")]:
            book.wish(wish)
        before = book.wishes
        book.lift(1)
        self.assertEqual(book.wishes, (before[0], before[2]))
        book.remove("b")
        self.assertEqual((book.names, book.changes), (("a",), 7))
        self.assertIsNone(book.undo())
        self.assertIs(book["b"], LAZY)
        book.undo()
        self.assertEqual(book.wishes, before)
        for left in (4, 3, 2):
            book.undo()
            self.assertEqual((book.wishes, book.changes), (before[:left - 2], left))
        book.undo()
        self.assertEqual((book.names, book.changes), (("a",), 1))
        book.undo()
        self.unchanged(book)
        with self.assertRaises(NothingToUndo) as caught:
            book.undo()
        self.assertIsInstance(caught.exception, NoAnswer)

    def test_many_changes(self):
        book = Book()
        for k in range(3000):
            book["a"] = (WHEEL, LAZY)[k % 2]
        for k in range(3000):
            book.undo()
        self.unchanged(book)


class Trials(BookCase):
    def test_all_changes_stay_if_it_ends_well(self):
        book = Book()
        with book.trial() as held:
            self.assertIs(held, book)
            held["a"] = WHEEL
            book.wish(("keeps", "a"))
        self.unchanged(book, 1, (("keeps", "a"),), 2)
        self.assertEqual(book.tried(lambda one: one.lift(0)), None)
        self.assertEqual(book.tried(work=len), 1)
        self.unchanged(book, 1, (), 3)

    def test_all_is_as_it_was_if_it_ends_by_an_exception(self):
        book = Book()
        book["a"] = WHEEL
        for error in (Stop, ValueError, KeyboardInterrupt, SystemExit, GeneratorExit):
            with self.assertRaises(error):
                with book.trial():
                    book.undo()
                    book["b"] = LAZY
                    book.wish(("keeps", "b"))
                    raise error()
            self.assertEqual((book.names, book.wishes, book.changes), (("a",), (), 1))
        book.undo()
        self.unchanged(book)
        self.assertRaises(NothingToUndo, book.undo)

    def test_errors_of_the_book_are_passed_on(self):
        book = Book()
        book["a"] = WHEEL

        def work(held):
            held.wish(("does", "a", "right"))
            held["a"] = LAZY

        with self.assertRaises(Broken) as caught:
            book.tried(work)
        self.assertEqual((caught.exception.index, caught.exception.size), (0, 3))
        self.unchanged(book, 1, (), 1)

    def test_within_one_another(self):
        book = Book()
        with book.trial():
            book["a"] = WHEEL
            with self.assertRaises(Stop):
                with book.trial():
                    book["b"] = LAZY
                    book.tried(lambda held: held.wish(("keeps", "b")))
                    self.assertEqual(book.changes, 3)
                    raise Stop("x")
            self.unchanged(book, 1, (), 1)
        self.unchanged(book, 1, (), 1)
        with self.assertRaises(Stop):
            with book.trial():
                with book.trial():
                    book["b"] = LAZY
                self.assertEqual(book.names, ("a", "b"))
                raise Stop("x")
        self.assertEqual((book.names, book.changes), (("a",), 1))

    def test_begins_with_the_rows_not_with_the_call(self):
        book = Book()
        trial = book.trial()
        book["a"] = WHEEL
        with self.assertRaises(Stop):
            with trial:
                book["b"] = LAZY
                raise Stop("x")
        self.assertEqual(book.names, ("a",))


class Examples(unittest.TestCase):
    def test_the_example_of_the_document(self):
        book = Book()
        book["wheel"] = WHEEL
        book.wish(("does", "wheel", "right"))
        self.assertEqual(
            [book.names, book.wishes, book.changes, len(book)], [('wheel',), (('does', 'wheel', 'right'),), 2, 1],
        )
        with self.assertRaises(Broken) as caught:
            book["wheel"] = LAZY
        self.assertEqual(repr(caught.exception), "Broken(index=0, size=3)")


if __name__ == "__main__":
    unittest.main()
