"""Actions: what becomes of all tables of all sizes."""

from squareloops.bits import bits_in
from squareloops.errors import Falls, InvalidPower, NotAnAction, NotOneToOne, UnknownName
from squareloops.given import check_cell, check_program, check_size, check_table, is_within
from squareloops.limits import MOST_POWER
from squareloops.loops import falling_sizes
from squareloops.moves import Mover, formula, in_turn, is_one_to_one, move_from
from squareloops.moves import moved, reached, repeated, taken_back
from squareloops.orbits import DECIDING_SIZES, first_cells, images_of, kind_at
from squareloops.orbits import least_images, shape_of
from squareloops.places import PLACE_INDEXES
from squareloops.sizes import Sizes, size_bits

# The place from which the entry of the cell (i, j) comes.
NAMED = {
    "same": "i,j", "transpose": "j,i", "slant": "~j,~i", "upside": "~i,j",
    "mirror": "i,~j", "half": "~i,~j", "right": "~j,i", "left": "j,~i",
}


class Action:
    """The sizes at which an action falls, and a move for each kind of cells that stands in
    tables of other sizes. So two actions are equal if these are."""

    def __init__(self, falls, moves):
        self._falls = falls
        self.moves = moves

    @classmethod
    def of(cls, program):
        """The action of a program."""
        check_program(program)
        falls = falling_sizes(program)
        return cls(falls, program_moves(program, kinds_beside(falls)))

    @classmethod
    def named(cls, name):
        """The action with this name."""
        if not is_action_name(name):
            raise UnknownName(name)
        return cls(Sizes(), named_moves(PLACE_INDEXES[NAMED[name]]))

    @property
    def falls(self):
        """The sizes at which it falls."""
        return self._falls

    def __call__(self, table):
        """The result for a table."""
        check_table(table)
        size = len(table)
        if size in self._falls:
            raise Falls(size)
        rows = [list(row) for row in table]
        for row, column in first_cells(size):
            cells = images_of(size, row, column)
            move = self.moves[kind_at(size, row, column)]
            entries = moved(move, [table[i][j] for i, j in cells])
            for (i, j), entry in zip(cells, entries):
                rows[i][j] = entry
        return tuple([tuple(row) for row in rows])

    def result(self, size, cell):
        """The formula of the entry of its result in a cell."""
        cells, move = self._move_at(size, cell)
        return formula(move, cells, cell)

    def reaches(self, size, cell):
        """The ascending tuple of the cells in which the result hangs on the entry of a cell."""
        cells, move = self._move_at(size, cell)
        return tuple([cells[index] for index in reached(move, cells.index(cell))])

    def __rshift__(self, other):
        falls = self._falls | other._falls
        moves = {}
        both = {}
        for kind in kinds_beside(falls):
            first, second = self.moves[kind], other.moves[kind]
            # Few kinds have moves of their own, so most pairs come several times.
            pair = first, second
            if pair not in both:
                both[pair] = in_turn(first, second)
            moves[kind] = both[pair]
        return Action(falls, moves)

    def times(self, power):
        """The action done so many times."""
        if not is_within(power, 0, MOST_POWER):
            raise InvalidPower(power)
        done = {}
        for move in self.moves.values():
            if move not in done:
                done[move] = repeated(move, power)
        return Action(self._falls, {kind: done[move] for kind, move in self.moves.items()})

    def inverse(self):
        """The action that takes back what this one does."""
        sizes = 0
        for kind, move in self.moves.items():
            if not is_one_to_one(move):
                sizes = sizes | DECIDING_SIZES[kind]
        sizes = bits_in(sizes & ~size_bits(self._falls))
        if sizes:
            raise NotOneToOne(sizes[0])
        return Action(self._falls, {kind: taken_back(move) for kind, move in self.moves.items()})

    def __eq__(self, other):
        return (
            isinstance(other, Action)
            and self._falls == other._falls
            and self.moves == other.moves
        )

    def _move_at(self, size, cell):
        """The images of a cell and the move for them, if there are such."""
        check_size(size)
        check_cell(size, cell)
        if size in self._falls:
            raise Falls(size)
        return images_of(size, *cell), self.moves[kind_at(size, *cell)]


def check_action(action):
    """Raises the error for what is no action."""
    if not isinstance(action, Action):
        raise NotAnAction(action)


def is_action_name(value):
    """Whether a value is the name of a named action."""
    return isinstance(value, str) and value in NAMED


def kinds_beside(falls):
    """The kinds of cells that stand in tables of other sizes than these."""
    sizes = size_bits(falls)
    return [kind for kind, own in DECIDING_SIZES.items() if own & ~sizes]


def named_moves(place):
    """The moves for all kinds of cells if the entry of each cell (i, j) comes from a place, told
    by its index."""
    shapes = [move_from(place, shape) for shape in range(4)]
    return {kind: shapes[shape_of(kind)] for kind in DECIDING_SIZES}


def program_moves(program, kinds):
    """The moves of a program for kinds of cells."""
    mover = Mover(program)
    moves = {}
    for kind in kinds:
        size, cells = least_images(kind)
        moves[kind] = mover.move(size, cells)
    return moves
