"""Checks of the arguments that functions and methods share."""

from squareloops.errors import InvalidCell, InvalidSize, InvalidTable, NotAProgram
from squareloops.limits import MOST_ROWS, MOST_SIZE
from squareloops.programs import Program


def is_whole(value):
    """Whether a value is an integer other than True and False."""
    return isinstance(value, int) and value is not True and value is not False


def is_within(value, least, most):
    """Whether a value is an integer from the least to the most one."""
    return is_whole(value) and least <= value <= most


def is_cell(size, value):
    """Whether a value is a cell of a table of this size."""
    return (
        isinstance(value, tuple)
        and len(value) == 2
        and all([is_within(number, 0, size - 1) for number in value])
    )


def is_row(size, value):
    """Whether a value is a row of a table of this size."""
    # Tables have many entries, so what is_whole asks is written out here.
    return (
        isinstance(value, tuple)
        and len(value) == size
        and all([isinstance(entry, int) and entry is not True and entry is not False for entry in value])
    )


def is_table(value):
    """Whether a value is a table of one of the sizes for which tables are passed."""
    return (
        isinstance(value, tuple)
        and 1 <= len(value) <= MOST_ROWS
        and all([is_row(len(value), row) for row in value])
    )


def check_size(size):
    """Raises the error for what is no size."""
    if not is_within(size, 1, MOST_SIZE):
        raise InvalidSize(size)


def check_cell(size, cell):
    """Raises the error for what is no cell of a table of this size."""
    if not is_cell(size, cell):
        raise InvalidCell(cell)


def check_table(table):
    """Raises the error for what is no table."""
    if not is_table(table):
        raise InvalidTable(table)


def check_program(program):
    """Raises the error for what is no program."""
    if not isinstance(program, Program):
        raise NotAProgram(program)
