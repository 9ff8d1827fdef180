"""Programs played round by round, told a second time for the tests."""

import functools
import itertools
import random

from grammar import INNER_LOOPS, OUTER_LOOPS, PLACES
from squareloops.programs import Nest, Program

WORDS = ("swap", "swap", "copy", "order", "turn")
SIGNS = ("<", "<=", "==", "!=")
NUMBERS = ("i", "j", "~i", "~j")


@functools.lru_cache(maxsize=None)
def bound(text, n, i=None):
    return eval(text, {"n": n, "i": i})


def loop_numbers(loop, n, i=None):
    first, _, stop, *down = loop.split()
    found = list(range(bound(first, n, i), bound(stop, n, i)))
    return found[::-1] if down else found


def all_rounds(program, n):
    """All rounds (nest, i, j) in their order; also those outside of the table."""
    return [
        (index, i, j)
        for index, nest in enumerate(program.nests)
        for i in loop_numbers(nest.outer, n)
        for j in loop_numbers(nest.inner, n, i)
    ]


def falls(program, n):
    return any(not (0 <= i < n and 0 <= j < n) for _, i, j in all_rounds(program, n))


def place_cells(n, i, j):
    a, b = n - 1 - i, n - 1 - j
    return {
        "i,j": (i, j), "j,i": (j, i), "i,~j": (i, b), "~j,i": (b, i),
        "~i,j": (a, j), "j,~i": (j, a), "~i,~j": (a, b), "~j,~i": (b, a),
    }


def images(n, cell):
    return sorted(set(place_cells(n, *cell).values()))


def holds(words, n, i, j):
    numbers = {"i": i, "j": j, "~i": n - 1 - i, "~j": n - 1 - j}
    left, sign, right = words
    return eval(f"left {sign} right", {"left": numbers[left], "right": numbers[right]})


def steps(program, n, rounds):
    """The words and cells of all deeds that do something in these rounds."""
    found = []
    for index, i, j in rounds:
        places = place_cells(n, i, j)
        for deed in program.nests[index].deeds:
            deed, _, condition = deed.partition(" if ")
            if not condition or holds(condition.split(), n, i, j):
                word, *names = deed.split()
                found.append((word, [places[name] for name in names]))
    return found


def do(word, cells, entries, least=min, greatest=max):
    """Does a deed to the dict of the entries by their cells."""
    read = [entries[cell] for cell in cells]
    if word == "swap":
        entries[cells[0]], entries[cells[1]] = read[1], read[0]
    elif word == "copy":
        entries[cells[1]] = read[0]
    elif word == "order":
        entries[cells[0]] = least(read)
        entries[cells[1]] = greatest(read)
    else:
        for index in range(1, len(cells)):
            entries[cells[index]] = read[index - 1]
        entries[cells[0]] = read[-1]


def play(program, table):
    """The result for a table; None if the program falls at its size."""
    n = len(table)
    if falls(program, n):
        return None
    entries = {(r, c): table[r][c] for r in range(n) for c in range(n)}
    for word, cells in steps(program, n, all_rounds(program, n)):
        do(word, cells, entries)
    return tuple(tuple(entries[r, c] for c in range(n)) for r in range(n))


def entry_of(entries, index):
    """What the entry with an index is for each of the entries 0 and 1, as bits."""
    return sum(1 << k for k, row in enumerate(entries) if row[index])


@functools.lru_cache(maxsize=1000)
def whole_play(text, n):
    """All plays at once in which 1 stands only in images of one cell; None if it falls.

    For each cell a number whose bit k tells its entry behind the play in which the images
    have the entries with the index k. Whole numbers are played, so `&` is the least
    of two entries, `|` the greatest one."""
    program = Program.read(text)
    if falls(program, n):
        return None
    behind = {}
    for cell in itertools.product(range(n), repeat=2):
        cells = images(n, cell)
        behind[cell] = entry_of(list(itertools.product((0, 1), repeat=len(cells))), cells.index(cell))
    for word, cells in steps(program, n, all_rounds(program, n)):
        do(word, cells, behind, lambda read: read[0] & read[1], lambda read: read[0] | read[1])
    return behind


def is_one_to_one(program, n):
    """Whether different tables with a 1 only in images of one cell have different results."""
    behind = whole_play(str(program), n)
    if behind is None:
        return False
    for cells in {tuple(images(n, cell)) for cell in behind}:
        rows = [[behind[cell] >> k & 1 for cell in cells] for k in range(1 << len(cells))]
        if len({tuple(row) for row in rows}) < len(rows):
            return False
    return True


def takes(loop, n, number, i=None):
    first, _, stop, *_ = loop.split()
    return bound(first, n, i) <= number < bound(stop, n, i)


def rounds_at(program, n, cell):
    """The rounds of the images of a cell, at any size."""
    for index, nest in enumerate(program.nests):
        order = [-1 if loop.endswith("down") else 1 for loop in (nest.outer, nest.inner)]
        found = [
            (i, j) for i, j in images(n, cell)
            if takes(nest.outer, n, i) and takes(nest.inner, n, j, i)
        ]
        for i, j in sorted(found, key=lambda at: (order[0] * at[0], order[1] * at[1])):
            yield index, i, j


@functools.lru_cache(maxsize=1000)
def plays_at(text, n, cell):
    """For all entries 0 and 1 of the images of a cell those behind all rounds."""
    program = Program.read(text)
    cells = images(n, cell)
    done = steps(program, n, rounds_at(program, n, cell))
    found = {}
    for entries in itertools.product((0, 1), repeat=len(cells)):
        behind = dict(zip(cells, entries))
        for word, places in done:
            do(word, places, behind)
        found[entries] = tuple(behind.values())
    return found


def formula(program, n, cell):
    """The formula of the entry in a cell, from plays with all entries 0 and 1."""
    cells = images(n, cell)
    index = cells.index(cell)
    ones = [
        {cells[k] for k, entry in enumerate(entries) if entry}
        for entries, behind in plays_at(str(program), n, cell).items() if behind[index]
    ]
    least = [one for one in ones if not any(other < one for other in ones)]
    return tuple(sorted(tuple(sorted(one)) for one in least))


def reached(program, n, cell):
    """The cells whose entry hangs on that of a cell, from plays with all entries 0 and 1."""
    cells = images(n, cell)
    index = cells.index(cell)
    plays = plays_at(str(program), n, cell)
    found = set()
    for entries, one in plays.items():
        other = plays[entries[:index] + (1 - entries[index],) + entries[index + 1:]]
        found |= {at for at, a, b in zip(cells, one, other) if a != b}
    return tuple(sorted(found))


def random_deed(draw):
    word = draw.choice(WORDS)
    many = draw.randint(3, 8) if word == "turn" else 2
    condition = ""
    if draw.random() < 0.4:
        left, right = draw.sample(NUMBERS, 2)
        condition = f" if {left} {draw.choice(SIGNS)} {right}"
    return f"{word} {' '.join(draw.sample(PLACES, many))}{condition}"


def random_program(draw, nests=4, deeds=3, inside=False):
    """A program of a drawn number of nests; with `inside` one that seldom falls."""
    outer = [loop for loop in OUTER_LOOPS if not inside or is_tame(loop)]
    inner = [loop for loop in INNER_LOOPS if not inside or is_tame(loop)]
    return Program(*[
        Nest(
            draw.choice(outer), draw.choice(inner),
            *[random_deed(draw) for _ in range(draw.randint(0, deeds))],
        )
        for _ in range(draw.randint(0, nests))
    ])


def is_tame(loop):
    first, _, stop, *_ = loop.split()
    return not first.startswith("-") and stop not in ("n+1", "n-i+1") and first not in ("i-1", "n-i")


def programs(seed, many, **sizes):
    draw = random.Random(seed)
    return [random_program(draw, **sizes) for _ in range(many)]


def tables(seed, n, many):
    """Tables with equal, small, great and negative entries."""
    draw = random.Random(f"{seed} {n}")
    kinds = [
        lambda r, c: 0, lambda r, c: n * r + c, lambda r, c: draw.randint(0, 1), lambda r, c: draw.randint(-3, 3),
        lambda r, c: draw.randint(-10 ** 30, 10 ** 30), lambda r, c: -(n * r + c),
    ]
    return [
        tuple(tuple(kinds[k % len(kinds)](r, c) for c in range(n)) for r in range(n)) for k in range(many)
    ]
