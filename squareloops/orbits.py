"""The images of a cell, and the kinds of cells."""

from squareloops.errors import InvalidKind
from squareloops.given import check_cell, check_size, is_within
from squareloops.places import IMAGE_COUNTS

# What is asked for all sizes is decided by the sizes up to this one.
LAST_DECIDING = 11

# All kinds, ascending, each with a number that has a bit for each size up to LAST_DECIDING of
# tables with such cells.
DECIDING_SIZES = {
    (0, 0, 0): 0b000000000010, (0, 0, 1): 0b000000000100, (0, 0, 2): 0b000000001000, (0, 0, 3): 0b111111110000,
    (0, 1, 0): 0b000000001000, (0, 1, 1): 0b000000010000, (0, 1, 2): 0b000000100000, (0, 1, 3): 0b111111000000,
    (0, 2, 0): 0b101010100000, (0, 2, 1): 0b010101000000, (0, 2, 2): 0b101010000000, (0, 2, 3): 0b111100000000,
    (1, 0, 0): 0b101010101000, (1, 0, 1): 0b010101010000, (1, 0, 2): 0b101010100000, (1, 0, 3): 0b111111000000,
    (1, 1, 0): 0b101010100000, (1, 1, 1): 0b010101000000, (1, 1, 2): 0b101010000000, (1, 1, 3): 0b111100000000,
    (1, 2, 0): 0b101010000000, (1, 2, 1): 0b010100000000, (1, 2, 2): 0b101000000000, (1, 2, 3): 0b110000000000,
}


def images(size, cell):
    """The ascending tuple of the different images of a cell."""
    check_size(size)
    check_cell(size, cell)
    return images_of(size, *cell)


def images_of(size, row, column):
    """The ascending tuple of the different images of the cell in a row and a column."""
    x, y, back_y, back_x = sorted([row, column, size - 1 - row, size - 1 - column])
    if y == back_y:
        return ((x, x),) if x == y else ((x, y), (y, x), (y, back_x), (back_x, y))
    if x == y:
        return ((x, x), (x, back_x), (back_x, x), (back_x, back_x))
    return (
        (x, y), (x, back_y), (y, x), (y, back_x),
        (back_y, x), (back_y, back_x), (back_x, y), (back_x, back_y),
    )


def kind_of(size, cell):
    """The kind of a cell."""
    check_size(size)
    check_cell(size, cell)
    return kind_at(size, *cell)


def kind_at(size, row, column):
    """The kind of the cell in a row and a column."""
    first, second, third, _ = sorted([row, column, size - 1 - row, size - 1 - column])
    return min(first, 1), min(second - first, 2), min(third - second, 3)


def first_cells(size):
    """The least image of each cell of a table, each of them once."""
    half = (size + 1) // 2
    return [(row, column) for row in range(half) for column in range(row, half)]


def kinds_of(size):
    """The ascending tuple of the kinds of all cells of a table of this size."""
    check_size(size)
    return tuple([kind for kind in DECIDING_SIZES if group_count(size, kind) > 0])


def cell_count(size, kind):
    """How many cells of a kind a table of this size has."""
    check_size(size)
    if not is_kind(kind):
        raise InvalidKind(kind)
    return group_count(size, kind) * image_count(kind)


def is_kind(value):
    """Whether a value is one of the kinds."""
    return (
        isinstance(value, tuple)
        and len(value) == 3
        and is_within(value[0], 0, 1)
        and is_within(value[1], 0, 2)
        and is_within(value[2], 0, 3)
    )


def shape_of(kind):
    """The shape in which the images of the cells of a kind lie, a number as in places.py."""
    _, b, c = kind
    if c == 0:
        return 3 if b == 0 else 2
    return 1 if b == 0 else 0


def shape_with(cells):
    """The shape in which these images of a cell lie."""
    if len(cells) == 4:
        row, column = cells[0]
        return 1 if row == column else 2
    return 0 if len(cells) == 8 else 3


def image_count(kind):
    """How many different images each cell of a kind has."""
    return IMAGE_COUNTS[shape_of(kind)]


def group_count(size, kind):
    """How many groups of images of this kind a table of this size has."""
    a, b, c = kind
    rest = size - least_size(kind)
    if rest < 0:
        return 0
    # The rest is shared out among the differences that stand for greater ones, too.
    # The first two count twice in the size; the third one takes what they leave.
    open_parts = [a == 1, b == 2].count(True)
    if c == 3:
        return ways(open_parts + 1, rest // 2)
    return ways(open_parts, rest // 2) if rest % 2 == 0 else 0


def ways(parts, total):
    """In how many ways a total is a sum of none to three numbers from 0 on, in a fixed order."""
    if parts == 0:
        return 1 if total == 0 else 0
    if parts == 1:
        return 1
    if parts == 2:
        return total + 1
    return (total + 1) * (total + 2) // 2


def least_size(kind):
    """The least size of a table with cells of a kind."""
    a, b, c = kind
    return 2 * a + 2 * b + c + 1


def least_images(kind):
    """The least size of a table with cells of a kind, and the images of such a cell."""
    a, b, _ = kind
    size = least_size(kind)
    return size, images_of(size, a, a + b)
