import random
import unittest

import cases
import claims
import plays
from samples import ALL_FALLS, CHOSEN, EVEN_FALLS, FAR, GREAT, LAZY, LOW, NAMED, ODD_FALLS, ONE_FALLS, WHEEL
from samples import cells_at, equal_in_plays, falls, same, table_of
from squareloops.certificates import certify_equal, certify_falls, certify_parts, certify_result
from squareloops.checker import accepts
from squareloops.errors import Falls, InvalidCell, InvalidSize, NotAProgram
from squareloops.programs import Nest, Program
from values import no_cells, no_integers, no_programs, no_sizes

LONG = Program(
    Nest("0 to n", "0 to n", "turn i,j j,~i ~i,~j ~j,i i,~j j,i", "order i,j j,i if i < j", "copy i,j j,i"),
    Nest("0 to n//2", "0 to n", "swap i,j ~i,j", "order i,j j,i"),
    Nest("0 to n", "i+1 to n", "order i,j j,i", "order i,~j j,i if i <= ~j"),
)
# Two programs that part, and one that does the same as LONG.
COPIES, SORTS = [Program(Nest("0 to n", "i to n", "order i,j j,i", deed)) for deed in ("copy i,j j,i", "order j,i i,j")]
LONGER = LONG + Program(Nest("0 to n", "0 to n", "swap i,j ~i,j", "swap ~i,j i,j"))
DRAWN = plays.programs("certificates", 40, nests=3, inside=True) + plays.programs("certificates any", 30)


class CertificateCase(cases.Refusing):
    def right(self, pair, claim):
        """That a pair has this claim and a certificate that is accepted."""
        self.assertEqual((type(pair), len(pair)), (tuple, 2))
        self.assertTrue(claims.same(pair[0], claim), (pair[0], claim))
        self.assertIs(accepts(*pair), True)

    def falls(self, size, function, *values):
        with self.assertRaises(Falls) as caught:
            function(*values)
        self.assertEqual(caught.exception.size, size)


class CertifyFalls(CertificateCase):
    def check(self, program, n, fallen):
        pair = certify_falls(program, n)
        if not fallen:
            self.assertIsNone(pair)
            return
        self.right(pair, ("falls", str(program), n))
        self.assertIs(claims.told(*pair), True)

    def test_small_sizes(self):
        for program in CHOSEN + DRAWN + [Program(ONE_FALLS), Program(ODD_FALLS)]:
            for n in range(1, 15):
                self.check(program, n, plays.falls(program, n))

    def test_great_sizes(self):
        for program in CHOSEN + DRAWN:
            for n in GREAT:
                self.check(program, n, falls(program, n))

    def test_drawn_loops(self):
        draw = random.Random("loops")
        for _ in range(300):
            program = plays.random_program(draw, nests=2, deeds=0)
            for n in (1, 2, 3, 4, 7, 10 ** 30 - draw.randint(0, 1)):
                self.check(program, n, falls(program, n))

    def test_rounds_far_inside_the_loops(self):
        # Some i have no j, some only such as are inside, some others leave the table.
        for outer, inner in [("0 to n", "n//2+1 to i+1"), ("-1 to n", "n-i to i+1"), ("0 to n", "n//2 to n-i+1"), ("0 to n+1", "n-i-1 to i"),
                             ("0 to n", "n-i-1 to n//2-1"), ("0 to n+1 down", "n-i-1 to 0"), ("-1 to n", "n//2-1 to i+1"), ("0 to n", "i-1 to n-i+1")]:
            program = Program(Nest("0 to n", "0 to n"), Nest(outer, inner))
            for n in [*range(1, 14), 10 ** 30, 10 ** 30 - 1]:
                self.check(program, n, falls(program, n))

    def test_errors_in_their_order(self):
        for value in no_programs():
            self.refused(NotAProgram, value, certify_falls, value, 0)
        for value in no_sizes():
            self.refused(InvalidSize, value, certify_falls, WHEEL, value)
            self.refused(InvalidSize, value, certify_falls, Program(ALL_FALLS), value)
        self.assertIsNone(certify_falls(size=3, program=WHEEL))


class CertifyParts(CertificateCase):
    def check(self, one, other, n):
        pair = certify_parts(one, other, n)
        if plays.whole_play(str(one), n) == plays.whole_play(str(other), n):
            self.assertIsNone(pair)
            return False
        self.right(pair, ("parts", str(one), str(other), n))
        self.assertIs(claims.told(*pair), True)
        return True

    def test_all_sizes(self):
        draw = random.Random("parts")
        pool = CHOSEN + DRAWN[:50]
        found = set()
        for _ in range(80):
            one, other = draw.choice(pool), draw.choice(pool)
            for n in (1, 2, 3, draw.randint(4, 9), draw.choice([10, 11, 12])):
                found.add(self.check(one, other, n))
        self.assertEqual(found, {True, False})

    def test_chosen_pairs(self):
        far = [Program(Nest(*FAR, deed)) for deed in ("swap i,j j,i", "order i,j j,i")]
        for one, other in [(WHEEL, LAZY), (WHEEL, same(WHEEL)), (LOW, Program()), (far[0], Program()), (far[1], Program()), tuple(far),
                           (Program(EVEN_FALLS), Program(ODD_FALLS)), (Program(ALL_FALLS), Program(EVEN_FALLS)), (Program(ONE_FALLS), Program())]:
            for n in range(1, 13):
                self.check(one, other, n)
                self.check(other, one, n)

    def test_long_programs(self):
        for one, other, parting in [(LONG, WHEEL, 11), (COPIES, SORTS, 11), (COPIES, LONG, 11), (SORTS, Program(), 11),
                                    (LONG, LONG, 0), (LONG, same(LONG), 0), (LONG, LONGER, 0), (LONGER, LONG, 0)]:
            self.assertEqual([self.check(one, other, n) for n in range(1, 13)].count(True), parting)

    def test_the_table_has_ones_among_the_images_of_the_least_cell(self):
        for one, other in [(LONG, WHEEL), (COPIES, SORTS), (LOW, LAZY), (WHEEL, LAZY), (CHOSEN[10], WHEEL), (LONGER, COPIES), *zip(DRAWN, DRAWN[1:20])]:
            for n in range(1, 13):
                pair = certify_parts(one, other, n)
                if pair is None or plays.falls(one, n) or plays.falls(other, n):
                    self.assertTrue(pair is None or pair[1] == ((0,) * n,) * n)
                    continue
                first, second = plays.whole_play(str(one), n), plays.whole_play(str(other), n)
                cell = min(cell for cell in first if first[cell] != second[cell])
                self.assertEqual(pair[1], self.least_table(one, other, n, cell))

    def least_table(self, one, other, n, cell):
        """The first table for which results differ in a cell, its images taken in like binary digits."""
        cells = plays.images(n, cell)
        for state in range(1 << len(cells)):
            table = table_of(n, [at for k, at in enumerate(cells) if state >> k & 1])
            first, second = plays.play(one, table), plays.play(other, table)
            if first[cell[0]][cell[1]] != second[cell[0]][cell[1]]:
                return table
        return None

    def test_errors_in_their_order(self):
        for value in no_programs():
            self.refused(NotAProgram, value, certify_parts, value, None, None)
            self.refused(NotAProgram, value, certify_parts, WHEEL, value, 0)
        for value in [0, -1, 13, 14, 10 ** 30, 10 ** 39, *no_integers()]:
            self.refused(InvalidSize, value, certify_parts, WHEEL, LAZY, value)
            self.refused(InvalidSize, value, certify_parts, WHEEL, WHEEL, value)
        self.assertEqual(certify_parts(size=3, other=LAZY, one=WHEEL)[0], ("parts", str(WHEEL), str(LAZY), 3))


class CertifyResult(CertificateCase):
    def check(self, program, n, cell):
        if falls(program, n):
            self.falls(n, certify_result, program, n, cell)
            return
        pair = certify_result(program, n, cell)
        self.right(pair, ("result", str(program), n, cell, plays.formula(program, n, cell)))
        self.assertTrue(claims.same(pair[1], tuple(plays.rounds_at(program, n, cell))))

    def test_small_sizes(self):
        for program in CHOSEN + DRAWN:
            for n in (1, 2, 3, 4):
                for cell in cells_at(n):
                    self.check(program, n, cell)

    def test_great_sizes(self):
        draw = random.Random("great")
        for program in CHOSEN + DRAWN:
            for n in (10, 11, draw.choice(GREAT)):
                numbers = [0, 1, n // 2 - 1, n // 2, n // 3, n - 1, draw.randrange(n)]
                self.check(program, n, (draw.choice(numbers), draw.choice(numbers)))

    def test_just_the_rounds_at_the_images_in_their_order(self):
        program = Program(Nest("0 to n down", "0 to n", "copy i,j j,i"), Nest("0 to 1", "i+1 to n down", "swap i,j ~i,j if i < ~i"))
        for n in range(1, 9):
            rounds = plays.all_rounds(program, n)
            for cell in cells_at(n):
                told = tuple((k, i, j) for k, i, j in rounds if (i, j) in plays.images(n, cell))
                self.assertEqual(certify_result(program, n, cell)[1], told)

    def test_errors_in_their_order(self):
        fallen = Program(ALL_FALLS)
        for value in no_programs():
            self.refused(NotAProgram, value, certify_result, value, None, None)
        for value in no_sizes():
            for program in (WHEEL, fallen):
                self.refused(InvalidSize, value, certify_result, program, value, None)
        for n in (1, 3, 10 ** 30):
            for value in no_cells(n):
                for program in (WHEEL, fallen):
                    self.refused(InvalidCell, value, certify_result, program, n, value)
            self.falls(n, certify_result, fallen, n, (0, 0))
        self.assertEqual(certify_result(cell=(0, 0), size=1, program=WHEEL), (("result", str(WHEEL), 1, (0, 0), (((0, 0),),)), ()))


class CertifyEqual(CertificateCase):
    def check(self, one, other):
        pair = certify_equal(one, other)
        if not equal_in_plays(one, other):
            self.assertIsNone(pair)
            return False
        self.right(pair, ("equal", str(one), str(other)))
        self.assertIs(claims.told(*pair), True)
        return True

    def test_a_program_and_itself(self):
        for program in CHOSEN + DRAWN + [Program(ONE_FALLS), Program(EVEN_FALLS, ODD_FALLS)]:
            self.assertTrue(self.check(program, program))
            self.assertTrue(self.check(program, same(program)))

    def test_drawn_pairs(self):
        draw = random.Random("equal")
        pool = CHOSEN + DRAWN[:20]
        for _ in range(150):
            self.check(draw.choice(pool), draw.choice(pool))

    def test_chosen_pairs(self):
        far = [Program(Nest(*FAR, deed)) for deed in ("swap i,j j,i", "order i,j j,i")]
        told = [
            (WHEEL + WHEEL, NAMED["half"], True), (WHEEL, LAZY, False), (far[0], Program(), False), (far[1], Program(), False),
            (Program(EVEN_FALLS, *far[0].nests), Program(EVEN_FALLS), False), (Program(ALL_FALLS), Program(EVEN_FALLS, ODD_FALLS), True),
            (Program(ONE_FALLS), Program(), False), (Program(EVEN_FALLS), Program(), False),
        ]
        for one, other, equal in told:
            self.assertIs(self.check(one, other), equal)
            self.assertIs(self.check(other, one), equal)

    def test_errors_in_their_order(self):
        for value in no_programs():
            self.refused(NotAProgram, value, certify_equal, value, None)
            self.refused(NotAProgram, value, certify_equal, WHEEL, value)
            self.refused(NotAProgram, value, lambda: certify_equal(other=1, one=value))


class Examples(unittest.TestCase):
    def test_the_examples_of_the_document(self):
        wheel, lazy = WHEEL, LAZY
        self.assertEqual(
            [certify_result(wheel, 4, (0, 1)), accepts(*certify_result(wheel, 4, (0, 1))), certify_falls(wheel, 4),
             certify_equal(wheel, lazy)],
            [(('result', 'i from 0 to n//2\nj from i to n-i-1\nturn i,j j,~i ~i,~j ~j,i', 4, (0, 1), (((2, 0),),)),
              ((0, 0, 1), (0, 0, 2))), True, None, None],
        )
        self.assertEqual(
            [certify_falls(Program(Nest("0 to 1", "-1 to 1")), 5), accepts(*certify_parts(wheel, lazy, 3)),
             accepts(("parts", str(wheel), str(lazy), 3), ((0, 1, 0),) + ((0, 0, 0),) * 2)],
            [(('falls', 'i from 0 to 1\nj from -1 to 1', 5), (0, 0, -1)), True, True],
        )


if __name__ == "__main__":
    unittest.main()
