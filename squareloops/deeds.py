"""What a deed does in a round: what it puts where."""


def holds(condition, numbers):
    """Whether a condition of a deed, three words or none, holds for the numbers of a round."""
    if not condition:
        return True
    left, sign, right = condition
    first, second = numbers[left], numbers[right]
    if sign == "<":
        return first < second
    if sign == "<=":
        return first <= second
    return (first == second) == (sign == "==")


def puts(word, cells):
    """What a deed puts to its cells, in this order: tuples of the cell to which it is put, the
    cells whose entries it comes from, and whether it is the greatest one of these entries
    (otherwise the least one)."""
    if word == "order":
        return [(cells[0], cells, False), (cells[1], cells, True)]
    if word == "copy":
        return [(cells[1], cells[:1], False)]
    # A swap is a turn of two places.
    after = cells[1:] + cells[:1]
    return [(end, [start], False) for start, end in zip(cells, after)]
