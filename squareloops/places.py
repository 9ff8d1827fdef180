"""The numbers of a round, and the cells that its places are."""

# The index of the row and of the column of each place among the numbers of a round.
PLACE_NUMBERS = {
    "i,j": (0, 1), "j,i": (1, 0), "i,~j": (0, 3), "~j,i": (3, 0),
    "~i,j": (2, 1), "j,~i": (1, 2), "~i,~j": (2, 3), "~j,~i": (3, 2),
}


def round_numbers(size, i, j):
    """The numbers i, j, ~i, ~j of a round."""
    return i, j, size - 1 - i, size - 1 - j
