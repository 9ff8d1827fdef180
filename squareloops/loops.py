"""The loops of nests: the numbers that they take, the rounds, and where a program falls."""

from squareloops.sizes import Sizes

# Each bound as three numbers: the index of its greater part in what parts_at gives, how
# often i is added, and what is added besides.
BOUNDS = {
    "-1": (0, 0, -1), "0": (0, 0, 0), "1": (0, 0, 1),
    "n-1": (1, 0, -1), "n": (1, 0, 0), "n+1": (1, 0, 1),
    "n//2-1": (2, 0, -1), "n//2": (2, 0, 0), "n//2+1": (2, 0, 1),
    "(n+1)//2-1": (3, 0, -1), "(n+1)//2": (3, 0, 0), "(n+1)//2+1": (3, 0, 1),
    "i-1": (0, 1, -1), "i": (0, 1, 0), "i+1": (0, 1, 1),
    "n-i-1": (1, -1, -1), "n-i": (1, -1, 0), "n-i+1": (1, -1, 1),
}


def parts_at(size):
    """The parts of the bounds that hang on the size alone."""
    return 0, size, size // 2, (size + 1) // 2


def bounds_of(nest):
    """The four bounds of a nest: of the outer loop the first one and the one below which it
    stays, as if it were ascending, then those of the inner loop."""
    outer, inner = nest.outer.split(" "), nest.inner.split(" ")
    return BOUNDS[outer[0]], BOUNDS[outer[2]], BOUNDS[inner[0]], BOUNDS[inner[2]]


def spans_at(bounds, size):
    """The bounds of a nest for a size, as six numbers: i goes from the first one to below the
    second one, j from the third one and the fourth one times i to below the fifth one and the
    sixth one times i."""
    parts = parts_at(size)
    (start, _, more), (stop, _, above), (low, low_steps, least), (high, high_steps, most) = bounds
    return (
        parts[start] + more, parts[stop] + above,
        parts[low] + least, low_steps, parts[high] + most, high_steps,
    )


def taken(loop, numbers):
    """Ascending numbers in the order in which a loop takes them."""
    return numbers[::-1] if loop.endswith(" down") else numbers


def rounds_among(spans, cells):
    """The indexes of the cells, tuples (i, j), that are rounds of a nest with these bounds."""
    start, stop, low, low_steps, high, high_steps = spans
    return tuple([
        index for index, (i, j) in enumerate(cells)
        if start <= i < stop and low + low_steps * i <= j < high + high_steps * i
    ])


def in_order(nest, rounds):
    """Ascending rounds (i, j) of a nest, in the order in which they are done."""
    return [
        (i, j) for i in taken(nest.outer, sorted({number for number, _ in rounds}))
        for j in taken(nest.inner, [other for number, other in rounds if number == i])
    ]


def rounds_of(program, indexes, cells):
    """The rounds (nest, i, j) of a program whose (i, j) are cells, in their order, if for each
    nest the indexes of these cells are told."""
    return [
        (index, i, j) for index, nest in enumerate(program.nests)
        for i, j in in_order(nest, [cells[at] for at in indexes[index]])
    ]


def image_rounds(program, size, cells):
    """The rounds (nest, i, j) of a program that are images of a cell, in their order."""
    indexes = [rounds_among(spans_at(bounds_of(nest), size), cells) for nest in program.nests]
    return rounds_of(program, indexes, cells)


def nest_rounds(nest, size):
    """All rounds (i, j) of a nest for no great size, in their order, also those that leave
    the table."""
    start, stop, low, low_steps, high, high_steps = spans_at(bounds_of(nest), size)
    return [
        (i, j) for i in taken(nest.outer, list(range(start, stop)))
        for j in taken(nest.inner, list(range(low + low_steps * i, high + high_steps * i)))
    ]


def all_rounds(program, size):
    """All rounds (nest, i, j) of a program for no great size, in their order."""
    return [(index, i, j) for index, nest in enumerate(program.nests) for i, j in nest_rounds(nest, size)]


def is_inside(size, i, j):
    """Whether a round stays in the table."""
    return 0 <= i < size and 0 <= j < size


def narrowed(first, end, least, steps):
    """The first one of the numbers i from the first one to below the end for which
    least + steps * i is not below 0, and the one below which they stay."""
    if steps > 0:
        return max(first, -(least // steps)), end
    if steps < 0:
        return first, min(end, least // -steps + 1)
    return first, end if least >= 0 else first


def falls_with(spans, size):
    """Whether a round of a nest with these bounds leaves the table, for no great size."""
    start, stop, low, low_steps, high, high_steps = spans
    for i in range(start, stop):
        first, end = low + low_steps * i, high + high_steps * i
        if first < end and not (0 <= i < size and 0 <= first and end <= size):
            return True
    return False


def falls_at(program, size):
    """Whether a program falls at a size that is not great."""
    return any([falls_with(spans_at(bounds_of(nest), size), size) for nest in program.nests])


def falling_sizes(program):
    """The sizes at which a program falls."""
    nests = [bounds_of(nest) for nest in program.nests]
    found = [
        size for size in range(1, 8)
        if any([falls_with(spans_at(bounds, size), size) for bounds in nests])
    ]
    # From size 6 on only the parity counts, so the sizes 6 and 7 tell for all others.
    return Sizes(
        tuple([size for size in found if size < 6]),
        even=6 if 6 in found else None,
        odd=7 if 7 in found else None,
    )
