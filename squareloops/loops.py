"""The loops of nests: the numbers that they take, the rounds, and where a program falls."""

from squareloops.orbits import images
from squareloops.sizes import Sizes


def outer_values(size):
    """The values of the bounds that an outer loop can have."""
    half, more = size // 2, (size + 1) // 2
    return {
        "-1": -1, "0": 0, "1": 1,
        "n-1": size - 1, "n": size, "n+1": size + 1,
        "n//2-1": half - 1, "n//2": half, "n//2+1": half + 1,
        "(n+1)//2-1": more - 1, "(n+1)//2": more, "(n+1)//2+1": more + 1,
    }


def inner_values(size, i):
    """The values of the bounds of an inner loop for this number of the outer one."""
    values = outer_values(size)
    return {
        **values,
        "i-1": i - 1, "i": i, "i+1": i + 1,
        "n-i-1": size - i - 1, "n-i": size - i, "n-i+1": size - i + 1,
    }


def span(loop, values):
    """The first number of a loop and the one below which it stays, as if it were ascending."""
    words = loop.split(" ")
    return values[words[0]], values[words[2]]


def taken(loop, values, numbers):
    """Those of the ascending numbers that a loop takes, in its order."""
    first, stop = span(loop, values)
    found = [number for number in numbers if first <= number < stop]
    return found[::-1] if loop.endswith(" down") else found


def image_rounds(program, size, cell):
    """The rounds (nest, i, j) of a program that are images of a cell, in their order."""
    places = images(size, cell)
    numbers = sorted({row for row, _ in places})
    found = []
    for index, nest in enumerate(program.nests):
        for i in taken(nest.outer, outer_values(size), numbers):
            for j in taken(nest.inner, inner_values(size, i), numbers):
                if (i, j) in places:
                    found.append((index, i, j))
    return found


def nest_falls(nest, size):
    """Whether a round of a nest leaves the table, for sizes that are not great."""
    first, stop = span(nest.outer, outer_values(size))
    for i in range(first, stop):
        low, high = span(nest.inner, inner_values(size, i))
        inside = 0 <= i < size and 0 <= low and high <= size
        if low < high and not inside:
            return True
    return False


def falls_at(program, size):
    """Whether a program falls at a size that is not great."""
    return any([nest_falls(nest, size) for nest in program.nests])


def falling_sizes(program):
    """The sizes at which a program falls."""
    # From size 6 on only the parity counts, so the sizes 6 and 7 tell for all others.
    return Sizes(
        tuple([size for size in range(1, 6) if falls_at(program, size)]),
        even=6 if falls_at(program, 6) else None,
        odd=7 if falls_at(program, 7) else None,
    )
