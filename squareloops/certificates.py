"""Claims about programs, with certificates for the checker."""

from squareloops.actions import Action
from squareloops.bits import least_bit
from squareloops.bounds import narrowed
from squareloops.errors import InvalidSize
from squareloops.facts import differing, least_difference, table_with_ones
from squareloops.given import check_program, check_size, is_within
from squareloops.limits import MOST_ROWS
from squareloops.loops import falls_at, rounds_at, spans_of, written_out
from squareloops.moves import Mover
from squareloops.orbits import LAST_DECIDING, first_cells, images_of, kind_at, shape_with


def certify_falls(program, size):
    """That a program falls at a size; None if it does not."""
    check_program(program)
    check_size(size)
    for index, spans in enumerate(spans_of(program, size)):
        outside = outside_round(spans, size)
        if outside is not None:
            return ("falls", str(program), size), (index, *outside)
    return None


def certify_parts(one, other, size):
    """That two programs do not agree at a size; None if they do."""
    check_program(one)
    check_program(other)
    if not is_within(size, 1, MOST_ROWS):
        raise InvalidSize(size)
    # Equal programs need not be worked out.
    table = None if one == other else table_that_shows(one, other, size)
    if table is None:
        return None
    return ("parts", str(one), str(other), size), table


def certify_result(program, size, cell):
    """What the formula of the entry of the result in a cell is."""
    # The action checks all that is passed, in the same order.
    formula = Action.of(program).result(size, cell)
    cells = images_of(size, *cell)
    rounds = rounds_at(program, spans_of(program, size), shape_with(cells), cells)
    return ("result", str(program), size, cell, formula), written_out(rounds, cells)


def certify_equal(one, other):
    """That the actions of two programs are equal; None if they are not."""
    check_program(one)
    check_program(other)
    action = Action.of(one)
    if action != Action.of(other):
        return None
    return ("equal", str(one), str(other)), cells_of_all_kinds(action.falls)


def outside_round(spans, size):
    """A round that leaves the table, of a nest with these bounds; None if there is none."""
    start, stop, low, low_steps, high, high_steps = spans
    ways = [
        (start, min(stop, 0), 0, 0),
        (max(start, size), stop, 0, 0),
        (start, stop, -1 - low, -low_steps),
        (start, stop, high - 1 - size, high_steps),
    ]
    for first, end, least, steps in ways:
        first, end = narrowed(first, end, least, steps)
        # There must be a j for this i, too.
        i, end = narrowed(first, end, high - low - 1, high_steps - low_steps)
        if i < end:
            j, last = low + low_steps * i, high + high_steps * i - 1
            return (i, j) if j < 0 or not 0 <= i < size else (i, last)
    return None


def table_that_shows(one, other, size):
    """A table for which two programs part, any one if just one of them falls; None if they agree."""
    falls, other_falls = falls_at(one, size), falls_at(other, size)
    if falls or other_falls:
        return table_with_ones(size, (), 0) if falls != other_falls else None
    first, second = Mover(one), Mover(other)
    least = least_difference(
        size, lambda kind, cells: differing(first.move(size, cells), second.move(size, cells))
    )
    if least is None:
        return None
    cell, states = least
    return table_with_ones(size, images_of(size, *cell), least_bit(states))


def cells_of_all_kinds(falls):
    """A pair of a size and a cell for each kind of cells in tables of other sizes than these."""
    found = {}
    for size in range(1, LAST_DECIDING + 1):
        if size not in falls:
            for row, column in first_cells(size):
                found.setdefault(kind_at(size, row, column), (size, (row, column)))
    return tuple(found.values())
