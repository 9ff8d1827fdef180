"""What a deed does in a round: what it puts where."""

from squareloops.checks import NUMBERS, deed_parts
from squareloops.places import PLACE_NUMBERS, round_numbers


def read_deed(deed):
    """A deed as a tuple of the places whose entries it reads, those to which it puts them one
    behind the other, whether it orders them ahead of that, and its condition."""
    word, places, condition = deed_parts(deed)
    starts = [PLACE_NUMBERS[place] for place in places]
    ends = starts
    if word == "copy":
        starts, ends = starts[:1], starts[1:]
    elif word != "order":
        # A swap is a turn of two places.
        ends = starts[1:] + starts[:1]
    return starts, ends, word == "order", read_condition(condition)


def read_condition(words):
    """A condition, three words or none, as a tuple of two indexes of numbers of a round and
    the sign between them; None for none."""
    if not words:
        return None
    left, sign, right = words
    return NUMBERS[left], sign, NUMBERS[right]


def holds(condition, numbers):
    """Whether a condition holds for the numbers of a round."""
    if condition is None:
        return True
    left, sign, right = condition
    first, second = numbers[left], numbers[right]
    if sign == "<":
        return first < second
    if sign == "<=":
        return first <= second
    return (first == second) == (sign == "==")


def deeds_of(program):
    """For each nest of a program the list of its deeds, as do_deed takes them."""
    return [[read_deed(deed) for deed in nest.deeds] for nest in program.nests]


def do_rounds(rounds, deeds, size, entries, ordered):
    """Does the deeds of the nests in rounds (nest, i, j), one behind the other, to entries by
    their cells; `ordered` gives the lesser and the greater one of two entries, whatever
    stands for them."""
    for index, i, j in rounds:
        numbers = round_numbers(size, i, j)
        for deed in deeds[index]:
            do_deed(deed, numbers, entries, ordered)


def do_deed(deed, numbers, entries, ordered):
    """Does a deed in the round with these numbers."""
    starts, ends, orders, condition = deed
    if holds(condition, numbers):
        read = [entries[numbers[row], numbers[column]] for row, column in starts]
        if orders:
            read = ordered(*read)
        for (row, column), entry in zip(ends, read):
            entries[numbers[row], numbers[column]] = entry
