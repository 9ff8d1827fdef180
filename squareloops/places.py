"""The numbers of a round, and the cells that its places are."""


def round_numbers(size, i, j):
    """The numbers of a round, also counted from the other end, by their names."""
    return {"i": i, "j": j, "~i": size - 1 - i, "~j": size - 1 - j}


def cell_at(place, numbers):
    """The cell that a place is in the round with these numbers."""
    row, column = place.split(",")
    return numbers[row], numbers[column]
