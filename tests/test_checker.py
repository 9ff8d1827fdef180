import random
import unittest

import claims
import plays
from samples import ALL_FALLS, CHOSEN, EVEN_FALLS, FAR, LAZY, LOW, NAMED, ODD_FALLS, ONE_FALLS, WHEEL
from samples import cells_at, falls, rows_of, table_of
from squareloops.checker import accepts
from squareloops.programs import Nest, Program
from values import Agreeing, Unfriendly, nested, no_cells, no_integers, no_sizes, no_strings, no_tables

DRAWN = plays.programs("checker", 25, nests=2, inside=True) + plays.programs("checker any", 15, nests=2)
GREAT = [10 ** 30, 10 ** 30 - 1, 10 ** 15 + 1, 13]
WHEEL_TEXT, LAZY_TEXT = str(WHEEL), str(LAZY)


class CheckerCase(unittest.TestCase):
    def right(self, claim, certificate):
        self.assertIs(accepts(claim, certificate), True, (claim, certificate))

    def wrong(self, claim, certificate):
        self.assertIs(accepts(claim, certificate), False, (claim, certificate))

    def as_told(self, claim, certificate):
        self.assertIs(accepts(claim, certificate), claims.told(claim, certificate), (claim, certificate))

    def bent(self, claim, certificate, seed):
        """That it is right, and the same with one thing bent is what was told of it."""
        self.right(claim, certificate)
        self.assertIs(claims.told(claim, certificate), True)
        draw = random.Random(f"bent {seed}")
        for other in claims.bends(claim, draw):
            self.as_told(other, certificate)
        for other in claims.bends(certificate, draw):
            self.as_told(claim, other)


class Falls(CheckerCase):
    def outside(self, program, n):
        return [(k, i, j) for k, i, j in plays.all_rounds(program, n) if not (0 <= i < n and 0 <= j < n)]

    def test_each_round_outside_and_no_other(self):
        for program in CHOSEN[-8:] + DRAWN + plays.programs("falling", 20, nests=3, deeds=0):
            for n in (1, 2, 3, 6, 7):
                rounds = plays.all_rounds(program, n)
                outside = self.outside(program, n)
                claim = ("falls", str(program), n)
                for one in set(rounds):
                    self.assertIs(accepts(claim, one), one in outside)
                for k in range(-1, len(program) + 1):
                    for i, j in [(-1, 0), (0, -1), (n, 0), (0, n), (n, n), (0, 0), (-2, 0), (n + 1, n + 1)]:
                        self.assertIs(accepts(claim, (k, i, j)), (k, i, j) in outside)

    def test_bent(self):
        for k, program in enumerate(CHOSEN[-8:] + DRAWN):
            for n in (1, 2, 5, 8):
                outside = self.outside(program, n)
                if outside:
                    self.bent(("falls", str(program), n), random.Random(k).choice(outside), f"falls {k} {n}")

    def test_great_sizes(self):
        for n in GREAT:
            for outer, inner, i, j in [
                ("0 to n+1", "0 to n", n, 0), ("0 to n+1", "0 to n", n, n - 1), ("-1 to n", "i to n", -1, -1),
                ("0 to n", "0 to n+1", 5, n), ("0 to n", "i-1 to n", 0, -1), ("0 to n down", "n-i to n+1", 3, n),
            ]:
                claim = ("falls", str(Program(Nest("0 to n", "0 to n"), Nest(outer, inner))), n)
                self.bent(claim, (1, i, j), f"{n} {outer}")
                self.wrong(claim, (0, i, j))

    def test_sizes_that_are_none(self):
        text = str(Program(ALL_FALLS))
        for value in no_sizes():
            self.wrong(("falls", text, value), (0, 0, 1))
        self.right(("falls", text, 1), (0, 0, 1))
        self.right(("falls", text, 10 ** 30), (0, 0, 10 ** 30))
        self.wrong(("falls", text, 10 ** 30 + 1), (0, 0, 10 ** 30 + 1))
        self.wrong(("falls", text, True), (0, 0, 1))
        for certificate in [(False, 0, 1), (0, False, 1), (0, 0, True), [0, 0, 1], (0, 0), (0, 0, 1, 1), ((0, 0, 1),), None]:
            self.wrong(("falls", text, 1), certificate)


class Parts(CheckerCase):
    def pairs(self):
        draw = random.Random("parts")
        pool = CHOSEN + DRAWN
        return [(draw.choice(pool), draw.choice(pool)) for _ in range(60)] + [(one, one) for one in CHOSEN]

    def test_tables(self):
        found = set()
        for one, other in self.pairs():
            for n in (1, 2, 3, 5, 12):
                for table in plays.tables("parts", n, 3):
                    claim = ("parts", str(one), str(other), n)
                    self.as_told(claim, table)
                    found.add(accepts(claim, table))
        self.assertEqual(found, {True, False})

    def test_entries_that_are_equal_among_images(self):
        draw = random.Random("equal among images")
        for one, other in self.pairs()[:40]:
            for n in (3, 4, 7, 12):
                even = {cell: draw.choice([-7, 0, 3, 3, 10 ** 30]) for cell in cells_at(n)}
                even = {cell: even[plays.images(n, cell)[0]] for cell in even}
                claim = ("parts", str(one), str(other), n)
                table = rows_of(n, even)
                self.assertIs(accepts(claim, table), plays.falls(one, n) != plays.falls(other, n))
                for cell in draw.sample(cells_at(n), 3):
                    self.as_told(claim, rows_of(n, {**even, cell: 4}))

    def test_bent(self):
        for k, (one, other) in enumerate(self.pairs()):
            n = 1 + k % 4
            for table in plays.tables("bent", n, 5):
                if plays.play(one, table) != plays.play(other, table):
                    self.bent(("parts", str(one), str(other), n), table, f"parts {k}")
                    break

    def test_if_just_one_falls_any_table_does(self):
        for n, nest in [(2, EVEN_FALLS), (12, EVEN_FALLS), (1, ODD_FALLS), (11, ODD_FALLS), (1, ONE_FALLS), (7, ALL_FALLS)]:
            for table in [((0,) * n,) * n, ((10 ** 39,) * n,) * n, *plays.tables("any", n, 6)]:
                self.right(("parts", str(Program(nest)), "", n), table)
                self.right(("parts", "", str(Program(nest)), n), table)
                self.wrong(("parts", str(Program(nest)), str(Program(nest, ALL_FALLS)), n), table)
            self.wrong(("parts", str(Program(nest)), "", n), ((0,) * (n + 1),) * (n + 1))
            self.wrong(("parts", str(Program(nest)), "", n + 1), ((0,) * n,) * n)

    def test_at_most_twelve(self):
        falls = str(Program(ALL_FALLS))
        for n in range(1, 16):
            self.assertIs(accepts(("parts", falls, "", n), ((0,) * n,) * n), n <= 12)
        for value in no_sizes():
            self.wrong(("parts", falls, "", value), ((0,),))
        for value in no_tables():
            for n in (1, 2, 3, 12, 13):
                self.wrong(("parts", falls, "", n), value)
        self.wrong(("parts", WHEEL_TEXT, LAZY_TEXT, 3), table_of(3, [(1, 1)]))
        self.right(("parts", WHEEL_TEXT, LAZY_TEXT, 3), table_of(3, [(0, 1)]))


class Result(CheckerCase):
    def claim(self, program, n, cell):
        return ("result", str(program), n, cell, plays.formula(program, n, cell)), tuple(plays.rounds_at(program, n, cell))

    def test_small_tables(self):
        for program in CHOSEN + DRAWN:
            for n in (1, 2, 3, 4):
                for cell in cells_at(n):
                    if not plays.falls(program, n):
                        self.right(*self.claim(program, n, cell))
                    else:
                        self.wrong(("result", str(program), n, cell, ((cell,),)), ())

    def test_great_sizes(self):
        draw = random.Random("great")
        for program in CHOSEN + DRAWN:
            n = draw.choice(GREAT)
            numbers = [0, 1, n // 2 - 1, n // 2, n // 3, n - 1, draw.randrange(n)]
            cell = draw.choice(numbers), draw.choice(numbers)
            claim = self.claim(program, n, cell)
            self.assertIs(accepts(*claim), not falls(program, n))

    def test_bent(self):
        draw = random.Random("bent")
        for k, program in enumerate(CHOSEN + DRAWN):
            for n in (1, 2, 3, draw.choice([4, 7, 10]), draw.choice(GREAT)):
                if not falls(program, n):
                    cell = draw.randrange(n), draw.randrange(n)
                    self.bent(*self.claim(program, n, cell), f"result {k} {n}")

    def test_sizes_and_cells_that_are_none(self):
        n = 10 ** 30
        self.right(("result", "", n, (0, n - 1), (((0, n - 1),),)), ())
        self.wrong(("result", "", n + 1, (0, n), (((0, n),),)), ())
        self.right(("result", "", 1, (0, 0), (((0, 0),),)), ())
        self.wrong(("result", "", True, (0, 0), (((0, 0),),)), ())
        for value in no_sizes():
            self.wrong(("result", "", value, (0, 0), (((0, 0),),)), ())
        for n in (1, 3, 10 ** 30):
            for value in no_cells(n):
                self.wrong(("result", "", n, value, ((value,),)), ())
                self.wrong(("result", "", n, (n - 1, n - 1), ((value,),)), ())

    def test_formulas_and_rounds_that_are_not_just_these(self):
        text, cell = str(LOW), (0, 1)
        formula, rounds = (((0, 1), (1, 0)),), ((0, 0, 1), (0, 1, 0))
        self.right(("result", text, 2, cell, formula), ((0, 0, 0), (0, 0, 1), (0, 1, 0), (0, 1, 1)))
        self.right(("result", text, 3, cell, formula), ((0, 0, 1), (0, 1, 0), (0, 1, 2), (0, 2, 1)))
        self.wrong(("result", text, 3, cell, formula), rounds)
        for other in [(((1, 0), (0, 1)),), (((0, 1),),), (((0, 1), (1, 0)), ((0, 1), (1, 0))), (((0, 1), (1, 0)), ((0, 1), (1, 0), (1, 2))),
                      ((), ((0, 1), (1, 0))), (), ((),), [((0, 1), (1, 0))], (((False, 1), (1, 0)),), (((0, True), (1, 0)),), Agreeing(),
                      (Agreeing(),), ((Agreeing(), Agreeing()),), Unfriendly(), (Unfriendly(),)]:
            self.wrong(("result", text, 3, cell, other), ((0, 0, 1), (0, 1, 0), (0, 1, 2), (0, 2, 1)))
        for other in [((0, 0, 1), (0, 1, 0), (0, 2, 1), (0, 1, 2)), ((0, 0, 1),) * 4, ((False, 0, 1), (0, 1, 0), (0, 1, 2), (0, 2, 1)),
                      ((0, 0, True), (0, 1, 0), (0, 1, 2), (0, 2, 1)), Agreeing(), (Agreeing(),) * 4, Unfriendly(), (Unfriendly(),) * 4]:
            self.wrong(("result", text, 3, cell, formula), other)


def pairs_of_all_kinds(program, draw):
    """A pair for each kind, at drawn sizes and cells."""
    sizes = [n for n in range(1, 12) if not plays.falls(program, n)]
    pairs = [(n, cell) for n in sizes for cell in cells_at(n)]
    draw.shuffle(pairs)
    return list({claims.kind(*pair): pair for pair in pairs}.values())


class Equal(CheckerCase):
    EQUAL = [
        *[(program, Program(*program.nests, Nest("0 to n", "0 to n"))) for program in CHOSEN if len(program) < 4],
        (Program(ALL_FALLS), Program(EVEN_FALLS, ODD_FALLS)), (Program(EVEN_FALLS), Program(EVEN_FALLS, EVEN_FALLS)),
        (WHEEL + WHEEL, NAMED["half"]), (WHEEL + WHEEL + WHEEL + WHEEL, Program()), (NAMED["slant"], NAMED["half"] + NAMED["transpose"]),
    ]

    def test_right_ones(self):
        draw = random.Random("equal")
        for one, other in self.EQUAL:
            claim, pairs = ("equal", str(one), str(other)), pairs_of_all_kinds(one, draw)
            self.right(claim, tuple(pairs))
            self.right(("equal", str(other), str(one)), tuple(pairs * 2))
            for k in range(len(pairs)):
                self.wrong(claim, tuple(pairs[:k] + pairs[k + 1:]))

    def test_bent(self):
        draw = random.Random("bent")
        for k, (one, other) in enumerate(self.EQUAL):
            self.bent(("equal", str(one), str(other)), tuple(pairs_of_all_kinds(one, draw)), f"equal {k}")

    def test_what_is_not_equal(self):
        draw = random.Random("not equal")
        far = [Program(Nest(*FAR, deed)) for deed in ("swap i,j j,i", "order i,j j,i")]
        for one, other in [(WHEEL, LAZY), (LOW, WHEEL), (Program(), LOW), *[(one, Program()) for one in far], far,
                           (Program(EVEN_FALLS), Program()), (Program(EVEN_FALLS), Program(ODD_FALLS)), (Program(ONE_FALLS), NAMED["same"])]:
            for pairs in (pairs_of_all_kinds(one, draw), pairs_of_all_kinds(other, draw), [(n, at) for n in range(1, 12) for at in cells_at(n)]):
                self.wrong(("equal", str(one), str(other)), tuple(pairs))
                self.wrong(("equal", str(other), str(one)), tuple(pairs))
            self.wrong(("equal", str(one), str(other)), ())

    def test_sizes_at_which_they_fall(self):
        text = str(Program(EVEN_FALLS))
        pairs = pairs_of_all_kinds(Program(EVEN_FALLS), random.Random(1))
        self.right(("equal", text, text), tuple(pairs))
        for n in (2, 4, 10):
            self.wrong(("equal", text, text), (*pairs, (n, (0, 0))))
        for n in (1, 3, 11):
            self.right(("equal", text, text), (*pairs, (n, (0, 0))))
        for pair in [(13, (0, 0)), (12, (0, 0)), (0, (0, 0)), (True, (0, 0)), (1, (0, 1)), (3, (0, False)), (3, [0, 0]), (3,), (3, (0, 0), 0),
                     [3, (0, 0)], 3, None, (None, (0, 0)), (3, None), Agreeing(), (Agreeing(), (0, 0)), (3, Agreeing()), Unfriendly()]:
            self.wrong(("equal", text, text), (*pairs, pair))
            self.wrong(("equal", text, text), (pair, *pairs))
        never = str(Program(ALL_FALLS))
        self.right(("equal", never, never), ())
        self.wrong(("equal", never, never), ((1, (0, 0)),))
        self.wrong(("equal", "", ""), ())


class AnyValues(CheckerCase):
    def values(self):
        return [
            *no_integers(), *no_strings(), 0, 1, -1, 10 ** 39, (0,), (0, 0, 0), ((0, 0, 0),), ("falls",), ("falls", WHEEL_TEXT), ("parts", "", ""),
            ("falls", WHEEL_TEXT, 3, 3), ("parts", "", "", 1, 1), ("result", "", 1, (0, 0)), ("result", "", 1, (0, 0), (((0, 0),),), ()),
            ("equal", ""), ("equal", "", "", ""), ("Falls", WHEEL_TEXT, 3), ("is", "", ""), (None, "", 3), (("falls",), "", 3),
            ["equal", "", ""], ["falls", WHEEL_TEXT, 3], (Agreeing(), Agreeing(), Agreeing()), (Unfriendly(),) * 3, ("falls", Agreeing(), Agreeing()),
            ("parts", Agreeing(), Agreeing(), 1), ("result", "", Agreeing(), Agreeing(), Agreeing()), ("equal", Agreeing(), Agreeing()),
            ("equal", Unfriendly(), Unfriendly()), "falls", b"falls", (b"falls", "", 1), nested(10), {"falls": 1}, {("falls", "", 1)},
        ]

    def test_are_no_claims(self):
        for claim in self.values():
            for certificate in [(), (0, 0, 1), ((0,),), None, Agreeing(), Unfriendly()]:
                self.wrong(claim, certificate)

    def test_are_no_certificates(self):
        for claim in [("falls", str(Program(ALL_FALLS)), 3), ("parts", WHEEL_TEXT, LAZY_TEXT, 3), ("equal", WHEEL_TEXT, WHEEL_TEXT),
                      ("result", WHEEL_TEXT, 4, (0, 1), (((2, 0),),)), ("falls", str(WHEEL), 3)]:
            for certificate in self.values():
                self.wrong(claim, certificate)

    def test_texts_that_are_none(self):
        texts = ["x", "\n", " ", WHEEL_TEXT + "\n", "\n" + WHEEL_TEXT, WHEEL_TEXT.replace("turn", "turns"), WHEEL_TEXT + "\nswap i,j i,j",
                 "\n".join([WHEEL_TEXT] * 5), "i from 0 to n", "i from i to n\nj from 0 to n", *no_strings()]
        for text in texts:
            if not isinstance(text, str) or text:
                self.wrong(("falls", text, 3), (0, 0, 3))
                self.wrong(("parts", text, str(Program(ALL_FALLS)), 1), ((0,),))
                self.wrong(("parts", str(Program(ALL_FALLS)), text, 1), ((0,),))
                self.wrong(("result", text, 1, (0, 0), (((0, 0),),)), ())
                self.wrong(("equal", text, text), ())
                self.wrong(("equal", str(Program(ALL_FALLS)), text), ())

    def test_by_name(self):
        self.assertIs(accepts(certificate=(), claim=("result", "", 1, (0, 0), (((0, 0),),))), True)


if __name__ == "__main__":
    unittest.main()
