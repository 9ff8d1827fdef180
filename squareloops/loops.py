"""The rounds of programs, and where programs fall."""

from squareloops.bounds import narrowed, spans_at
from squareloops.sizes import Sizes


def spans_of(program, size):
    """The list of the bounds of the nests of a program for a size."""
    return [spans_at(nest.bounds, size) for nest in program.nests]


def rounds_at(program, spans, shape, cells):
    """For each nest of a program, with these bounds, the indexes of the cells, images that lie
    in a shape, that are rounds of it, in their order."""
    return tuple([
        rounds_among(row, nest.orders[shape], cells) for nest, row in zip(program.nests, spans)
    ])


def rounds_among(spans, order, cells):
    """The indexes of the cells (i, j) that are rounds of a nest with these bounds, in an order
    of all indexes."""
    start, stop, low, low_steps, high, high_steps = spans
    found = []
    for index in order:
        i, j = cells[index]
        if start <= i < stop and low + low_steps * i <= j < high + high_steps * i:
            found.append(index)
    return tuple(found)


def written_out(rounds, cells):
    """The tuple of the rounds (nest, i, j) if for each nest the indexes of these cells are told."""
    return tuple([(nest, *cells[index]) for nest, indexes in enumerate(rounds) for index in indexes])


def taken(loop, numbers):
    """Ascending numbers in the order in which a loop takes them."""
    return numbers[::-1] if loop.endswith(" down") else numbers


def nest_rounds(nest, size):
    """All rounds (i, j) of a nest for no great size, in their order, also those that leave
    the table."""
    start, stop, low, low_steps, high, high_steps = spans_at(nest.bounds, size)
    return [
        (i, j) for i in taken(nest.outer, list(range(start, stop)))
        for j in taken(nest.inner, list(range(low + low_steps * i, high + high_steps * i)))
    ]


def all_rounds(program, size):
    """All rounds (nest, i, j) of a program for no great size, in their order."""
    return [(index, i, j) for index, nest in enumerate(program.nests) for i, j in nest_rounds(nest, size)]


def is_inside(size, i, j):
    """Whether a round stays in the table."""
    return 0 <= i < size and 0 <= j < size


def falls_with(spans, size):
    """Whether a round of a nest with these bounds leaves the table."""
    start, stop, low, low_steps, high, high_steps = spans
    # Only an i with a j counts; the least and the greatest j stand at the first or the last one.
    first, end = narrowed(start, stop, high - low - 1, high_steps - low_steps)
    last = end - 1
    return first <= last and (
        first < 0 or last >= size
        or low + low_steps * first < 0 or low + low_steps * last < 0
        or high + high_steps * first > size or high + high_steps * last > size
    )


def falls_at(program, size):
    """Whether a program falls at a size."""
    return any([falls_with(spans, size) for spans in spans_of(program, size)])


def falling_sizes(program):
    """The sizes at which a program falls."""
    found = [size for size in range(1, 8) if falls_at(program, size)]
    # From size 6 on only the parity counts, so the sizes 6 and 7 tell for all others.
    return Sizes(
        tuple([size for size in found if size < 6]),
        even=6 if 6 in found else None,
        odd=7 if 7 in found else None,
    )
