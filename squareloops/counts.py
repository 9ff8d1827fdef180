"""How many rounds a program has, and how many cells an action treats alike."""

from squareloops.actions import check_action
from squareloops.bounds import narrowed
from squareloops.errors import Falls
from squareloops.given import check_program, check_size
from squareloops.loops import falls_at, spans_of
from squareloops.moves import TRUTHS, reached
from squareloops.orbits import group_count


def round_count(program, size):
    """The number of rounds of all nests of a program."""
    check_program(program)
    check_size(size)
    if falls_at(program, size):
        raise Falls(size)
    return sum([nest_count(spans) for spans in spans_of(program, size)])


def nest_count(spans):
    """The number of rounds of a nest with these bounds."""
    start, stop, low, low_steps, high, high_steps = spans
    width, steps = high - low, high_steps - low_steps
    first, end = narrowed(start, stop, width - 1, steps)
    if first >= end:
        return 0
    # The numbers of rounds for each i ascend or descend by equal steps.
    return (end - first) * (width + steps * first + width + steps * (end - 1)) // 2


def cell_counts(action, size):
    """The numbers of the cells whose entry stays, comes from one other cell, or comes to be in
    another way, and of those on whose entry nothing hangs."""
    check_action(action)
    check_size(size)
    if size in action.falls:
        raise Falls(size)
    total = [0, 0, 0, 0]
    for kind, move in action.moves.items():
        groups = group_count(size, kind)
        if groups:
            total = [more + groups * many for more, many in zip(total, move_counts(move))]
    return tuple(total)


def move_counts(move):
    """The same numbers for the images that a move is for."""
    stays = [truth == own for truth, own in zip(move, TRUTHS)].count(True)
    only_moved = [truth in TRUTHS for truth in move].count(True)
    lost = [index for index in range(len(move)) if not reached(move, index)]
    return stays, only_moved - stays, len(move) - only_moved, len(lost)
