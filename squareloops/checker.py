"""The checker: whether a claim is true, as a certificate shows."""

from squareloops.actions import Action
from squareloops.bounds import spans_at
from squareloops.errors import InvalidText
from squareloops.given import is_cell, is_table, is_whole, is_within
from squareloops.limits import MOST_ROWS, MOST_SIZE
from squareloops.loops import falls_at, is_inside, rounds_at, spans_of, written_out
from squareloops.moves import formula, move_of
from squareloops.orbits import LAST_DECIDING, first_cells, images_of, kind_at, shape_with
from squareloops.playing import entries_in, played
from squareloops.programs import Program

# How many values stand behind the word of a claim.
LENGTHS = {"falls": 2, "parts": 3, "result": 4, "equal": 2}


def accepts(claim, certificate):
    """Whether a value is a claim that is true, and another one is a certificate for it."""
    if not isinstance(claim, tuple) or not claim or not isinstance(claim[0], str):
        return False
    word, *values = claim
    if word not in LENGTHS or len(values) != LENGTHS[word]:
        return False
    if word == "falls":
        return shows_falls(*values, certificate)
    if word == "parts":
        return shows_parts(*values, certificate)
    if word == "result":
        return shows_result(*values, certificate)
    return shows_equal(*values, certificate)


def shows_falls(text, size, certificate):
    """Whether a round that is outside shows that a program falls."""
    program = program_of(text)
    if program is None or not is_within(size, 1, MOST_SIZE) or not is_round(certificate):
        return False
    index, i, j = certificate
    if not 0 <= index < len(program) or is_inside(size, i, j):
        return False
    start, stop, low, low_steps, high, high_steps = spans_at(program.nests[index].bounds, size)
    return start <= i < stop and low + low_steps * i <= j < high + high_steps * i


def shows_parts(text, other_text, size, certificate):
    """Whether a table shows that two programs do not agree at its size."""
    one, other = program_of(text), program_of(other_text)
    if one is None or other is None:
        return False
    if not is_within(size, 1, MOST_ROWS) or not is_table(certificate) or len(certificate) != size:
        return False
    falls, other_falls = falls_at(one, size), falls_at(other, size)
    if falls or other_falls:
        return falls != other_falls
    spans, other_spans = spans_of(one, size), spans_of(other, size)
    for row, column in first_cells(size):
        cells = images_of(size, row, column)
        entries = entries_in(certificate, cells)
        # Deeds only move entries among images, so equal ones stay as they are.
        if entries.count(entries[0]) < len(entries):
            if played(one, spans, cells, entries) != played(other, other_spans, cells, entries):
                return True
    return False


def shows_result(text, size, cell, claimed, certificate):
    """Whether the rounds at the images of a cell show the formula of its entry."""
    program = program_of(text)
    if program is None or not is_within(size, 1, MOST_SIZE) or not is_cell(size, cell):
        return False
    if not is_formula(size, claimed) or not are_all(is_round, certificate):
        return False
    if falls_at(program, size):
        return False
    cells = images_of(size, *cell)
    shape = shape_with(cells)
    rounds = rounds_at(program, spans_of(program, size), shape, cells)
    if certificate != written_out(rounds, cells):
        return False
    return claimed == formula(move_of(program, rounds, shape), cells, cell)


def shows_equal(text, other_text, certificate):
    """Whether cells of all kinds stand for the sizes at which two equal actions do not fall."""
    one, other = program_of(text), program_of(other_text)
    if one is None or other is None or not are_all(is_pair, certificate):
        return False
    action = Action.of(one)
    sizes = [size for size in range(1, LAST_DECIDING + 1) if size not in action.falls]
    if action != Action.of(other) or not all([size in sizes for size, _ in certificate]):
        return False
    shown = {kind_at(size, row, column) for size, (row, column) in certificate}
    return all([kind in shown for kind in action.moves])


def program_of(text):
    """The program with this text; None if there is none."""
    try:
        return Program.read(text)
    except InvalidText:
        return None


def are_all(is_right, value):
    """Whether a value is a tuple of such values."""
    return isinstance(value, tuple) and all([is_right(one) for one in value])


def is_round(value):
    """Whether a value is a tuple of three integers."""
    return isinstance(value, tuple) and len(value) == 3 and all([is_whole(one) for one in value])


def is_pair(value):
    """Whether a value is a pair of one of the deciding sizes and a cell of a table of this size."""
    if not isinstance(value, tuple) or len(value) != 2:
        return False
    size, cell = value
    return is_within(size, 1, LAST_DECIDING) and is_cell(size, cell)


def is_formula(size, value):
    """Whether a value is a tuple of tuples of cells of a table of this size."""
    return isinstance(value, tuple) and all([
        isinstance(row, tuple) and all([is_cell(size, cell) for cell in row]) for row in value
    ])
