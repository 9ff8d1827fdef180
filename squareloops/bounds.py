"""Loops as bounds, and the numbers that they take at a size."""

# Each bound as three numbers: the index of its greater part in what parts_at gives, how
# often i is added, and what is added besides.
BOUNDS = {
    "-1": (0, 0, -1), "0": (0, 0, 0), "1": (0, 0, 1),
    "n-1": (1, 0, -1), "n": (1, 0, 0), "n+1": (1, 0, 1),
    "n//2-1": (2, 0, -1), "n//2": (2, 0, 0), "n//2+1": (2, 0, 1),
    "(n+1)//2-1": (3, 0, -1), "(n+1)//2": (3, 0, 0), "(n+1)//2+1": (3, 0, 1),
    "i-1": (0, 1, -1), "i": (0, 1, 0), "i+1": (0, 1, 1),
    "n-i-1": (1, -1, -1), "n-i": (1, -1, 0), "n-i+1": (1, -1, 1),
}


def read_loop(value):
    """A loop as its two bounds and 1 if it descends, else 0; None for any other value."""
    words = value.split(" ") if isinstance(value, str) else []
    descends = words[3:] == ["down"]
    if len(words) != 3 + descends or words[1] != "to" or words[0] not in BOUNDS or words[2] not in BOUNDS:
        return None
    return BOUNDS[words[0]], BOUNDS[words[2]], int(descends)


def read_outer_loop(value):
    """The same for a loop with bounds that an outer loop can have."""
    loop = read_loop(value)
    if loop is None:
        return None
    (_, steps, _), (_, more_steps, _), _ = loop
    return loop if steps == 0 and more_steps == 0 else None


def parts_at(size):
    """The parts of the bounds that hang on the size alone."""
    return 0, size, size // 2, (size + 1) // 2


def spans_at(bounds, size):
    """The bounds of a nest for a size, as six numbers: i goes from the first one to below the
    second one, j from the third one and the fourth one times i to below the fifth one and the
    sixth one times i."""
    parts = parts_at(size)
    (start, _, more), (stop, _, above), (low, low_steps, least), (high, high_steps, most) = bounds
    return (
        parts[start] + more, parts[stop] + above,
        parts[low] + least, low_steps, parts[high] + most, high_steps,
    )


def narrowed(first, end, least, steps):
    """The first one of the numbers i from the first one to below the end for which
    least + steps * i is not below 0, and the one below which they stay."""
    if steps > 0:
        return max(first, -(least // steps)), end
    if steps < 0:
        return first, min(end, least // -steps + 1)
    return first, end if least >= 0 else first
