"""Moves: what becomes of the entries 0 and 1 of the images of a cell.

A state of m images is a number below 2 to the m; its bit k is the entry of the image with
the index k. A move is a tuple that has at the index of each state the state behind it. No
move here takes a 1 away from anywhere if more entries are 1 ahead of it. That is why a move
also tells what becomes of any integers.
"""

from squareloops.bits import bits_in, has_bit, with_bits


def image_indexes(move):
    """The indexes of the images that a move is for."""
    return list(range(len(move).bit_length() - 1))


def staying(move):
    """The move of the same images that changes nothing."""
    return tuple(range(len(move)))


def first_truths(count):
    """For each of so many images the number that has a bit for each state: its entry there."""
    truths, states = [], 1
    for _ in range(count):
        # The states with a 1 at one more image come behind those without it.
        truths = [truth | (truth << states) for truth in truths] + [((1 << states) - 1) << states]
        states *= 2
    return truths


def move_of(truths):
    """The move behind which the images have the entries that these numbers tell for each state."""
    behind = [0] * (1 << len(truths))
    for index, truth in enumerate(truths):
        for state in bits_in(truth, len(behind)):
            behind[state] += 1 << index
    return tuple(behind)


def in_turn(first, second):
    """The move that does the first one, then the second one."""
    return tuple([second[state] for state in first])


def repeated(move, power):
    """The move done so many times."""
    done, doubled, left = staying(move), move, power
    while left > 0:
        if left % 2 == 1:
            done = in_turn(done, doubled)
        doubled = in_turn(doubled, doubled)
        left //= 2
    return done


def is_one_to_one(move):
    """Whether different states have different states behind them."""
    return len(set(move)) == len(move)


def taken_back(move):
    """The move that takes back one that is one-to-one."""
    ahead = [0] * len(move)
    for state, behind in enumerate(move):
        ahead[behind] = state
    return tuple(ahead)


def least_states(move, index):
    """The states behind which an image has a 1, and has none with fewer entries 1."""
    found = []
    for state, behind in enumerate(move):
        if has_bit(behind, index):
            fewer = [state - (1 << image) for image in bits_in(state, len(image_indexes(move)))]
            if not any([has_bit(move[less], index) for less in fewer]):
                found.append(state)
    return found


def reached(move, index):
    """The indexes of the images that hang on the entry of the image with this index."""
    changes = [behind ^ move[state ^ (1 << index)] for state, behind in enumerate(move)]
    return [image for image in image_indexes(move) if any([has_bit(change, image) for change in changes])]


def moved(move, entries):
    """The entries of the images behind a move, for any integers."""
    behind = list(entries)
    # With 1 written for each entry of at least a bound, an image has a 1 behind the move
    # exactly if its entry is then at least the bound. So the last bound that does it is the entry.
    for bound in sorted(entries):
        state = with_bits([index for index, entry in enumerate(entries) if entry >= bound])
        for index in bits_in(move[state], len(entries)):
            behind[index] = bound
    return behind
