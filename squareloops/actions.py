"""Actions: what becomes of all tables of all sizes."""

from squareloops.bits import bits_in
from squareloops.checks import deed_parts
from squareloops.deeds import holds, puts
from squareloops.errors import Falls, InvalidPower, NotOneToOne, UnknownName
from squareloops.given import check_cell, check_program, check_size, check_table, is_within
from squareloops.limits import MOST_POWER
from squareloops.loops import falling_sizes, image_rounds
from squareloops.moves import first_truths, in_turn, is_one_to_one, least_states, move_of
from squareloops.moves import moved, reached, repeated, taken_back
from squareloops.orbits import LAST_DECIDING, all_kinds, group_count, images, kind_of, kinds_of
from squareloops.orbits import least_cell, least_size
from squareloops.places import cell_at, round_numbers
from squareloops.sizes import Sizes

# The place from which the entry of the cell (i, j) comes.
NAMED = {
    "same": "i,j", "transpose": "j,i", "slant": "~j,~i", "upside": "~i,j",
    "mirror": "i,~j", "half": "~i,~j", "right": "~j,i", "left": "j,~i",
}


class Action:
    """The sizes at which an action falls, and a move for each kind of cells that stands in
    tables of other sizes. So two actions are equal if these are."""

    def __init__(self, falls, moves):
        self._falls = falls
        self._moves = moves

    @classmethod
    def of(cls, program):
        """The action of a program."""
        check_program(program)
        falls = falling_sizes(program)
        return cls(falls, {kind: program_move(program, kind) for kind in kinds_beside(falls)})

    @classmethod
    def named(cls, name):
        """The action with this name."""
        if not is_action_name(name):
            raise UnknownName(name)
        falls = Sizes()
        return cls(falls, {kind: named_move(name, kind) for kind in kinds_beside(falls)})

    @property
    def falls(self):
        """The sizes at which it falls."""
        return self._falls

    def __call__(self, table):
        """The result for a table."""
        check_table(table)
        size = len(table)
        rows = [list(row) for row in table]
        for cell in [(row, column) for row in range(size) for column in range(size)]:
            cells, move = self._move_at(size, cell)
            # Each group of images is moved once, when its least cell comes.
            if cells[0] == cell:
                entries = moved(move, [table[row][column] for row, column in cells])
                for (row, column), entry in zip(cells, entries):
                    rows[row][column] = entry
        return tuple([tuple(row) for row in rows])

    def result(self, size, cell):
        """The formula of the entry of its result in a cell."""
        cells, move = self._move_at(size, cell)
        indexes = [bits_in(state, len(cells)) for state in least_states(move, cells.index(cell))]
        return tuple(sorted([tuple([cells[index] for index in row]) for row in indexes]))

    def reaches(self, size, cell):
        """The ascending tuple of the cells in which the result hangs on the entry of a cell."""
        cells, move = self._move_at(size, cell)
        return tuple([cells[index] for index in reached(move, cells.index(cell))])

    def __rshift__(self, other):
        falls = self._falls | other._falls
        return Action(falls, {
            kind: in_turn(self._moves[kind], other._moves[kind]) for kind in kinds_beside(falls)
        })

    def times(self, power):
        """The action done so many times."""
        if not is_within(power, 0, MOST_POWER):
            raise InvalidPower(power)
        return Action(self._falls, {
            kind: repeated(move, power) for kind, move in self._moves.items()
        })

    def inverse(self):
        """The action that takes back what this one does."""
        for size in sizes_beside(self._falls):
            if not all([is_one_to_one(self._moves[kind]) for kind in kinds_of(size)]):
                raise NotOneToOne(size)
        return Action(self._falls, {kind: taken_back(move) for kind, move in self._moves.items()})

    def __eq__(self, other):
        return (
            isinstance(other, Action)
            and self._falls == other._falls
            and self._moves == other._moves
        )

    def _move_at(self, size, cell):
        """The images of a cell and the move for them, if there are such."""
        check_size(size)
        check_cell(size, cell)
        if size in self._falls:
            raise Falls(size)
        return images(size, cell), self._moves[kind_of(size, cell)]


def is_action_name(value):
    """Whether a value is the name of a named action."""
    return isinstance(value, str) and value in NAMED


def sizes_beside(falls):
    """The deciding sizes at which an action does not fall that falls at these sizes."""
    return [size for size in range(1, LAST_DECIDING + 1) if size not in falls]


def kinds_beside(falls):
    """The kinds of cells that stand in tables of other sizes than these."""
    sizes = sizes_beside(falls)
    return [kind for kind in all_kinds() if any([group_count(size, kind) > 0 for size in sizes])]


def named_move(name, kind):
    """The move of a named action for a kind of cells."""
    size = least_size(kind)
    cells = images(size, least_cell(kind))
    truths = first_truths(len(cells))
    origins = [cell_at(NAMED[name], round_numbers(size, row, column)) for row, column in cells]
    return move_of([truths[cells.index(origin)] for origin in origins])


def program_move(program, kind):
    """The move of a program for a kind of cells."""
    size, cell = least_size(kind), least_cell(kind)
    cells = images(size, cell)
    entries = dict(zip(cells, first_truths(len(cells))))
    for index, i, j in image_rounds(program, size, cell):
        numbers = round_numbers(size, i, j)
        for deed in program.nests[index].deeds:
            entries.update(truths_put(deed, numbers, entries))
    return move_of([entries[cell] for cell in cells])


def truths_put(deed, numbers, entries):
    """What a deed puts where in a round, if the entries are numbers with a bit for each state."""
    word, places, condition = deed_parts(deed)
    if not holds(condition, numbers):
        return {}
    put = {}
    for end, starts, greatest in puts(word, [cell_at(place, numbers) for place in places]):
        truth = entries[starts[0]]
        for start in starts:
            truth = truth | entries[start] if greatest else truth & entries[start]
        put[end] = truth
    return put
