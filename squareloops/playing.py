"""Programs played on tables, round by round."""

from squareloops.deeds import do_rounds
from squareloops.errors import Falls, InvalidEntry, InvalidSize, InvalidTable, NothingToUndo
from squareloops.given import check_cell, check_program, check_table, is_table, is_whole, is_within
from squareloops.limits import MOST_ROWS
from squareloops.loops import all_rounds, falls_at, is_inside, rounds_at, spans_of
from squareloops.orbits import first_cells, images_of, shape_with


class Sheet:
    """A table on which a program is done round by round. It keeps a moment, from which those
    that can come back are reached; moments never change."""

    def __init__(self, program, table):
        check_program(program)
        check_table(table)
        self._steps = tuple(all_rounds(program, len(table)))
        self._nests = program.nests
        self._now = Moment(table, 0, None)

    def step(self):
        """Does the next round and returns it; returns None if there is none."""
        table, many = self._now.rows, self._now.many
        if many == len(self._steps):
            return None
        index, i, j = self._steps[many]
        if not is_inside(len(table), i, j):
            raise Falls(len(table))
        cells = images_of(len(table), i, j)
        entries = entries_in(table, cells)
        do_rounds([self._nests[index]], [[cells.index((i, j))]], shape_with(cells), entries, ordered_entries)
        self._now = Moment(with_entries(table, dict(zip(cells, entries))), many + 1, self._now)
        return index, i, j

    def __getitem__(self, at):
        check_cell(len(self), at)
        row, column = at
        return self._now.rows[row][column]

    def __setitem__(self, at, worth):
        check_cell(len(self), at)
        if not is_whole(worth):
            raise InvalidEntry(worth)
        self._now = Moment(with_entries(self._now.rows, {at: worth}), self._now.many, self._now)

    def __iter__(self):
        raise TypeError("a sheet is not iterated over")

    @property
    def table(self):
        """The table as it is now."""
        return self._now.rows

    @table.setter
    def table(self, value):
        if not is_table(value) or len(value) != len(self):
            raise InvalidTable(value)
        self._now = Moment(value, self._now.many, self._now)

    @property
    def done(self):
        """The tuple of all rounds that were done and not taken back."""
        return self._steps[:self._now.many]

    def undo(self):
        """Takes back the last step or setting that was not taken back."""
        if self._now.before is None:
            raise NothingToUndo()
        self._now = self._now.before

    def trial(self):
        """For a `with` statement behind which the sheet is as it was ahead of it."""
        return SheetTrial(self)

    def tried(self, work):
        """What a function returns for the sheet, which is then as it was."""
        with SheetTrial(self) as sheet:
            return work(sheet)

    def __len__(self):
        return len(self._now.rows)

    def __bool__(self):
        return True


class Moment:
    """The rows of a table, how many rounds were done, and the moment ahead of the last change, if any."""

    def __init__(self, rows, many, before):
        self.rows = rows
        self.many = many
        self.before = before


class SheetTrial:
    """Keeps the moment of a sheet at the start of a `with` statement for its end."""

    def __init__(self, sheet):
        self._sheet = sheet
        self._kept = None

    def __enter__(self):
        self._kept = self._sheet._now
        return self._sheet

    def __exit__(self, kind, value, trace):
        sheet = self._sheet
        sheet._now = self._kept


def rounds(program, size):
    """Yields all rounds (nest, i, j) of a program in the order in which they are done."""
    check_program(program)
    if not is_within(size, 1, MOST_ROWS):
        raise InvalidSize(size)
    if falls_at(program, size):
        raise Falls(size)
    yield from all_rounds(program, size)


def run(program, table):
    """The result of a program for a table."""
    check_program(program)
    check_table(table)
    size = len(table)
    if falls_at(program, size):
        raise Falls(size)
    spans = spans_of(program, size)
    behind = {}
    for row, column in first_cells(size):
        cells = images_of(size, row, column)
        for cell, entry in zip(cells, played(program, spans, cells, entries_in(table, cells))):
            behind[cell] = entry
    return with_entries(table, behind)


def played(program, spans, cells, entries):
    """The entries of the images of a cell behind all rounds of a program with these bounds."""
    shape = shape_with(cells)
    behind = list(entries)
    do_rounds(program.nests, rounds_at(program, spans, shape, cells), shape, behind, ordered_entries)
    return behind


def entries_in(table, cells):
    """The list of the entries in these cells of a table."""
    return [table[row][column] for row, column in cells]


def set_table(sheet, table):
    """Sets the table of a sheet."""
    sheet.table = table


def ordered_entries(first, second):
    """The lesser and the greater one of two entries."""
    return min(first, second), max(first, second)


def with_entries(table, entries):
    """The table with these entries in their cells."""
    rows = [list(row) for row in table]
    for (row, column), entry in entries.items():
        rows[row][column] = entry
    return tuple([tuple(row) for row in rows])
