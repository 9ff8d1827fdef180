"""Programs that several files of tests share."""

import itertools

import plays
from squareloops.programs import Nest, Program

WHEEL = Program(Nest("0 to n//2", "i to n-i-1", "turn i,j j,~i ~i,~j ~j,i"))
LAZY = Program(Nest("0 to n//2", "0 to n//2", "turn i,j j,~i ~i,~j ~j,i"))
LOW = Program(Nest("0 to n", "0 to n", "order i,j j,i if i < j"))
NINE = ((1, 2, 3), (4, 5, 6), (7, 8, 9))

# Nests that fall at even sizes, at odd ones, at all, and at size 1 alone.
EVEN_FALLS = Nest("(n+1)//2 to n//2+1", "-1 to 0")
ODD_FALLS = Nest("n//2 to (n+1)//2", "-1 to 0")
ALL_FALLS = Nest("0 to n", "0 to n+1", "swap i,j j,i")
ONE_FALLS = Nest("0 to 1", "n//2-1 to n//2", "swap i,j ~i,j")
# A nest that only reaches cells which stand in tables of 10 rows or more.
FAR = "n//2 to n-1", "n-i+1 to n//2-1"

# Places that are mirrored, exchanges that are taken back, and entries that are overwritten.
CHOSEN = [
    Program(), Program(Nest("0 to n", "0 to n")), WHEEL, LAZY, LOW, WHEEL + LAZY, LOW + WHEEL,
    Program(Nest("0 to n", "0 to n", "swap i,j j,i")),
    Program(Nest("0 to n", "0 to n", "swap i,j i,~j", "swap i,j i,~j")),
    Program(Nest("0 to n", "0 to n", "swap i,j i,~j", "swap i,~j i,j")),
    Program(Nest("0 to n", "0 to n", "swap i,j ~i,~j")),
    Program(Nest("0 to n//2", "0 to n", "swap i,j ~i,j")),
    Program(Nest("0 to n", "0 to n//2", "swap i,j i,~j")),
    Program(Nest("0 to n", "i+1 to n", "swap i,j j,i")),
    Program(Nest("0 to n", "0 to n-i-1", "swap i,j ~j,~i")),
    Program(Nest("0 to n", "0 to n", "copy i,j j,i")),
    Program(Nest("0 to n down", "0 to n", "copy i,j ~i,j")),
    Program(Nest("0 to n", "0 to n down", "copy i,j i,~j if i <= j")),
    Program(Nest("0 to n//2", "0 to n//2", "order i,j ~i,~j", "order j,~i ~j,i")),
    Program(Nest("0 to n", "0 to n", "order i,j j,i", "order i,j ~i,j", "order i,j i,~j")),
    Program(Nest("0 to n", "0 to n", "turn i,j j,i i,~j ~j,i ~i,j j,~i ~i,~j ~j,~i")),
    Program(Nest("0 to 1", "0 to n", "turn i,j ~i,j ~i,~j")),
    Program(Nest("n//2 to (n+1)//2", "0 to n", "turn i,j j,i ~j,i", "copy ~i,j j,~i")),
    Program(Nest(*FAR, "swap i,j j,i")), Program(Nest(*FAR, "copy i,j j,i")), Program(Nest(*FAR, "order i,j j,i")),
    Program(EVEN_FALLS), Program(ODD_FALLS), Program(ALL_FALLS), Program(ONE_FALLS), Program(EVEN_FALLS, ODD_FALLS),
    Program(EVEN_FALLS, Nest("0 to n", "0 to n", "copy i,j j,i")), Program(ODD_FALLS, Nest(*FAR, "copy i,j j,i")),
]

GREAT = [12, 13, 14, 200, 201, 10 ** 15 + 1, 10 ** 30 - 1, 10 ** 30]


def cells_at(n):
    """All cells of a table that is not great."""
    return list(itertools.product(range(n), repeat=2))


def falls(program, n):
    """Whether a program falls, also at a great size of which only the parity counts."""
    return plays.falls(program, n if n < 10 else 10 + n % 2)


def bits_of(entries):
    """All rows of so many entries 0 and 1."""
    return list(itertools.product((0, 1), repeat=entries))


def table_of(n, ones):
    return rows_of(n, {cell: int(cell in ones) for cell in cells_at(n)})


def rows_of(n, entries):
    """The table with these entries in its cells."""
    return tuple(tuple(entries[r, c] for c in range(n)) for r in range(n))


def same(program):
    """The program with its nests made anew."""
    return Program.read(str(program))


# Programs with the same actions as the named ones.
NAMED = {
    "same": Program(),
    "transpose": Program(Nest("0 to n", "0 to i", "swap i,j j,i")),
    "slant": Program(Nest("0 to n", "0 to n-i-1", "swap i,j ~j,~i")),
    "upside": Program(Nest("0 to n//2", "0 to n", "swap i,j ~i,j")),
    "mirror": Program(Nest("0 to n", "0 to n//2", "swap i,j i,~j")),
    "half": Program(Nest("0 to n//2", "0 to n", "swap i,j ~i,j"), Nest("0 to n", "0 to n//2", "swap i,j i,~j")),
    "right": WHEEL,
    "left": WHEEL + WHEEL + WHEEL,
}


def changed(program, changes):
    """The program with other rows in the places of parts of nests."""
    nests = [[nest.outer, nest.inner, *nest.deeds] for nest in program.nests]
    for nest, part, row in changes:
        nests[nest][{"outer": 0, "inner": 1}.get(part, part if isinstance(part, str) else part + 2)] = row
    return Program(*[Nest(*rows) for rows in nests])


def equal_in_plays(one, other):
    return all(plays.whole_play(str(one), n) == plays.whole_play(str(other), n) for n in range(1, 12))
