"""The checker told a second time by plays, and claims and certificates that are bent."""

import plays
from grammar import is_text
from samples import falls
from squareloops.programs import Program


def whole(value, least, most):
    return type(value) is int and least <= value <= most


def a_cell(n, value):
    return type(value) is tuple and len(value) == 2 and all(whole(k, 0, n - 1) for k in value)


def a_text(value):
    return type(value) is str and is_text(value)


def told(claim, certificate):
    """Whether a claim is true and a certificate is one for it."""
    if type(claim) is not tuple or not claim or type(claim[0]) is not str:
        return False
    form = {"falls": (3, falls_told), "parts": (4, parts_told), "result": (5, result_told), "equal": (3, equal_told)}
    many, told_form = form.get(claim[0], (0, None))
    return len(claim) == many and told_form(*claim[1:], certificate)


def falls_told(text, n, certificate):
    if not a_text(text) or not whole(n, 1, 10 ** 30) or type(certificate) is not tuple or len(certificate) != 3:
        return False
    index, i, j = certificate
    nests = Program.read(text).nests
    if not whole(index, 0, len(nests) - 1) or not all(type(k) is int for k in (i, j)):
        return False
    nest = nests[index]
    inside = 0 <= i < n and 0 <= j < n
    return plays.takes(nest.outer, n, i) and plays.takes(nest.inner, n, j, i) and not inside


def a_table(n, value):
    return type(value) is tuple and len(value) == n and all(
        type(row) is tuple and len(row) == n and all(type(entry) is int for entry in row) for row in value)


def parts_told(text, other, n, certificate):
    if not a_text(text) or not a_text(other) or not whole(n, 1, 12) or not a_table(n, certificate):
        return False
    results = [plays.play(Program.read(one), certificate) for one in (text, other)]
    return results[0] != results[1]


def result_told(text, n, cell, formula, certificate):
    if not a_text(text) or not whole(n, 1, 10 ** 30) or not a_cell(n, cell):
        return False
    program = Program.read(text)
    if falls(program, n):
        return False
    rounds = tuple(plays.rounds_at(program, n, cell))
    return same(formula, plays.formula(program, n, cell)) and same(certificate, rounds)


def equal_told(text, other, certificate):
    if not a_text(text) or not a_text(other) or type(certificate) is not tuple:
        return False
    sizes = [n for n in range(1, 12) if plays.whole_play(text, n) is not None]
    if any(plays.whole_play(text, n) != plays.whole_play(other, n) for n in range(1, 12)):
        return False
    if not all(type(pair) is tuple and len(pair) == 2 for pair in certificate):
        return False
    if not all(type(n) is int and n in sizes and a_cell(n, cell) for n, cell in certificate):
        return False
    return all_kinds(sizes) <= {kind(n, cell) for n, cell in certificate}


def kind(n, cell):
    x, y, back_y, _ = sorted([*cell, *[n - 1 - number for number in cell]])
    return min(x, 1), min(y - x, 2), min(back_y - y, 3)


def all_kinds(sizes):
    return {kind(n, (r, c)) for n in sizes for r in range(n) for c in range(n)}


def same(one, other):
    """Whether two values are equal and of the same types at every depth."""
    if type(one) is not type(other):
        return False
    if type(one) is tuple:
        return len(one) == len(other) and all(same(a, b) for a, b in zip(one, other))
    return one == other


def bends(value, draw):
    """Values in which one thing is another one, at any depth of a value."""
    yield from (None, "x", [], (), 0, True)
    if type(value) is int:
        yield from (value + 1, value - 1, -value, str(value), (value,), value + 10 ** 30, value % 2 == 1)
    elif type(value) is str:
        yield from (value + "\n", value[1:], value[:-1], value.replace("n", "n+1", 1), value.upper(), value.encode(), (value,))
    elif type(value) is tuple:
        yield from (list(value), (*value, 0), (*value, *value[-1:]), value[1:], value[:-1], value[::-1], (value,))
        for k in sorted(draw.sample(range(len(value)), min(len(value), 6))):
            yield value[:k] + value[k + 1:]
            for bent in list(bends(value[k], draw)):
                yield value[:k] + (bent,) + value[k + 1:]
