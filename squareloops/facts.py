"""What is true of actions, at which sizes."""

from math import lcm

from squareloops.actions import check_action
from squareloops.bits import bits_in, has_bit, least_bit
from squareloops.moves import is_one_to_one, keeps_entries, tail_and_period
from squareloops.orbits import DECIDING_SIZES, LAST_DECIDING, first_cells, images_of, kind_at
from squareloops.sizes import Sizes, size_bits

# A number with a bit for each of the sizes up to LAST_DECIDING.
DECIDING = 0b111111111110


def agree(one, other):
    """The sizes at which both actions fall, or neither does and they give the same results."""
    check_action(one)
    check_action(other)
    return set_decided_by(agreeing(one, other))


def below(one, other):
    """The sizes at which neither action falls and no entry of the first result is greater."""
    check_action(one)
    check_action(other)
    wrong = sizes_with([
        kind for kind, first, second in both_moves(one, other)
        if any([truth & ~more for truth, more in zip(first, second)])
    ])
    return set_decided_by(standing(one) & standing(other) & ~wrong)


def keeps(action):
    """The sizes at which an action keeps entries."""
    check_action(action)
    wrong = [kind for kind, move in action.moves.items() if not keeps_entries(move)]
    return set_decided_by(standing(action) & ~sizes_with(wrong))


def one_to_one(action):
    """The sizes at which an action is one-to-one."""
    check_action(action)
    wrong = [kind for kind, move in action.moves.items() if not is_one_to_one(move)]
    return set_decided_by(standing(action) & ~sizes_with(wrong))


def parting(one, other):
    """The least size at which two actions do not agree, with a cell and a table that show it."""
    check_action(one)
    check_action(other)
    sizes = parting_sizes(one, other)
    if not sizes:
        return None
    size = least_bit(sizes)
    if size in one.falls or size in other.falls:
        return size, None, None
    cell, states = least_difference(
        size, lambda kind, cells: differing(one.moves[kind], other.moves[kind])
    )
    fewest = min([(len(bits_in(state)), state) for state in bits_in(states)])[1]
    return size, cell, table_with_ones(size, images_of(size, *cell), fewest)


def period(action):
    """The least numbers (tail, period) such that the action done tail + period times is the
    same as done tail times."""
    check_action(action)
    known = {}
    tail, times = 0, 1
    for move in action.moves.values():
        # Many kinds have the same move.
        if move not in known:
            known[move] = True
            own_tail, own_times = tail_and_period(move)
            tail, times = max(tail, own_tail), lcm(times, own_times)
    return tail, times


def agreeing(one, other):
    """The deciding sizes at which two actions agree, as a number with a bit for each."""
    wrong = sizes_with([kind for kind, first, second in both_moves(one, other) if first != second])
    fall_together = DECIDING & ~standing(one) & ~standing(other)
    return fall_together | standing(one) & standing(other) & ~wrong


def parting_sizes(one, other):
    """The other deciding sizes."""
    return DECIDING & ~agreeing(one, other)


def standing(action):
    """The deciding sizes at which an action does not fall."""
    return DECIDING & ~size_bits(action.falls)


def both_moves(one, other):
    """The kinds for which two actions have moves, with both moves."""
    return [(kind, move, other.moves[kind]) for kind, move in one.moves.items() if kind in other.moves]


def sizes_with(kinds):
    """The deciding sizes of tables with cells of one of these kinds."""
    found = 0
    for kind in kinds:
        found = found | DECIDING_SIZES[kind]
    return found


def set_decided_by(sizes):
    """The set of all sizes to which these deciding ones belong."""
    # Tables of two more rows have cells of the same kinds as those of the last two of these sizes.
    even, odd = LAST_DECIDING - 1, LAST_DECIDING
    return Sizes(
        tuple([size for size in bits_in(sizes) if size < even]),
        even=even if has_bit(sizes, even) else None,
        odd=odd if has_bit(sizes, odd) else None,
    )


def least_difference(size, states_of):
    """The least cell in which two results for tables of a size differ, and the number of the
    states of its images that show it, with a bit for each; None if there is none. For a kind
    and the images of a cell `states_of` gives the list of these numbers."""
    least, known = None, {}
    for at in first_cells(size):
        # These cells ascend, and no image of one is less than it.
        if least is not None and least[0] < at:
            return least
        kind = kind_at(size, *at)
        if kind not in known:
            found = states_of(kind, images_of(size, *at))
            known[kind] = [(index, states) for index, states in enumerate(found) if states][:1]
        for index, states in known[kind]:
            cell = images_of(size, *at)[index]
            if least is None or cell < least[0]:
                least = cell, states
    return least


def differing(move, other):
    """For each image the number of the states in which the entries behind two moves differ."""
    return [truth ^ more for truth, more in zip(move, other)]


def table_with_ones(size, cells, state):
    """The table with an entry 1 in those of the cells of which the bits of a state are 1, and
    with 0 in all others."""
    rows = [[0] * size for _ in range(size)]
    for index in bits_in(state):
        row, column = cells[index]
        rows[row][column] = 1
    return tuple([tuple(row) for row in rows])
