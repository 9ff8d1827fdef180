"""Which strings are loops, deeds and texts, told a second time for the tests."""

import itertools
import re

PLACES = ["i,j", "j,i", "i,~j", "~j,i", "~i,j", "j,~i", "~i,~j", "~j,~i"]
OUTER_BOUNDS = [
    "-1", "0", "1", "n-1", "n", "n+1", "n//2-1", "n//2", "n//2+1",
    "(n+1)//2-1", "(n+1)//2", "(n+1)//2+1",
]
INNER_ONLY = ["i-1", "i", "i+1", "n-i-1", "n-i", "n-i+1"]
INNER_BOUNDS = OUTER_BOUNDS + INNER_ONLY


def loops(bounds):
    pairs = itertools.product(bounds, repeat=2)
    return [f"{first} to {stop}{down}" for first, stop in pairs for down in ("", " down")]


OUTER_LOOPS = loops(OUTER_BOUNDS)
INNER_LOOPS = loops(INNER_BOUNDS)
PAIR_DEEDS = [
    f"{word} {a} {b}"
    for word in ("swap", "copy", "order")
    for a, b in itertools.permutations(PLACES, 2)
]
TURNS = [
    "turn " + " ".join(places)
    for places in itertools.chain(
        itertools.permutations(PLACES, 3),
        *[[tuple(PLACES[:many]), tuple(PLACES[::-1][:many])] for many in range(4, 9)],
    )
]
CONDITIONS = [
    f" if {x} {sign} {y}"
    for x, y in itertools.permutations(["i", "j", "~i", "~j"], 2)
    for sign in ("<", "<=", "==", "!=")
]


def one_of(words):
    return "(?:" + "|".join(re.escape(word) for word in words) + ")"


OUTER = re.compile(f"i from {one_of(OUTER_LOOPS)}")
INNER = re.compile(f"j from {one_of(INNER_LOOPS)}")
PLACE = one_of(PLACES)
DEED = re.compile(
    f"(?:(?:swap|copy|order)( {PLACE}){{2}}|turn( {PLACE}){{3,8}})({one_of(CONDITIONS)})?"
)


def is_deed(row):
    places = re.findall(PLACE + "(?= |$)", row.split(" if ")[0])
    return DEED.fullmatch(row) is not None and len(places) == len(set(places))


def is_text(text):
    """Whether a string is the text of a program, by a walk over its rows."""
    rows = text.split("\n") if text else []
    nests = 0
    while rows:
        if len(rows) < 2 or not OUTER.fullmatch(rows[0]) or not INNER.fullmatch(rows[1]):
            return False
        many = 0
        while many + 2 < len(rows) and is_deed(rows[many + 2]):
            many += 1
        nests += 1
        if many > 6 or nests > 4:
            return False
        rows = rows[many + 2:]
    return True


def mutants(row, signs=" ij01n+-/()~,<=!x\n"):
    """All strings with one character of the row left out, put in or exchanged."""
    found = {row[:k] + row[k + 1:] for k in range(len(row))}
    for sign in signs:
        found |= {row[:k] + sign + row[k:] for k in range(len(row) + 1)}
        found |= {row[:k] + sign + row[k + 1:] for k in range(len(row))}
    return sorted(found - {row})
