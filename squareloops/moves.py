"""Moves: what becomes of the entries 0 and 1 of the images of a cell.

A state of the images is a number; its bit k is the entry of the image with the index k. A
truth is a number, too; its bit s is an entry if s was the state at first. A move is a tuple
of the truths of the images behind it. No move here takes a 1 away from anywhere if more
entries are 1 at first. That is why a move also tells what becomes of any integers.
"""

from math import lcm

from squareloops.bits import bits_in
from squareloops.deeds import do_rounds
from squareloops.loops import rounds_at, spans_of
from squareloops.orbits import shape_with
from squareloops.places import IMAGES_AT, IMAGE_COUNTS

# Below this power a move is done without asking for its period.
MANY_TIMES = 300

# There are truths for the states of eight images; where fewer ones are, the others do not count.
ALL_STATES = (1 << 256) - 1

# The truth of the entry of each image itself: that with the index k is 1 in the states in
# which bit k is 1. A move in which all truths are among these only moves entries.
TRUTHS = (
    0xaaaaaaaaaaaaaaaaaaaaaaaaaaaaaaaaaaaaaaaaaaaaaaaaaaaaaaaaaaaaaaaa,
    0xcccccccccccccccccccccccccccccccccccccccccccccccccccccccccccccccc,
    0xf0f0f0f0f0f0f0f0f0f0f0f0f0f0f0f0f0f0f0f0f0f0f0f0f0f0f0f0f0f0f0f0,
    0xff00ff00ff00ff00ff00ff00ff00ff00ff00ff00ff00ff00ff00ff00ff00ff00,
    0xffff0000ffff0000ffff0000ffff0000ffff0000ffff0000ffff0000ffff0000,
    0xffffffff00000000ffffffff00000000ffffffff00000000ffffffff00000000,
    0xffffffffffffffff0000000000000000ffffffffffffffff0000000000000000,
    0xffffffffffffffffffffffffffffffff00000000000000000000000000000000,
)


class Mover:
    """Works out the moves of a program for the images of cells, each move once."""

    def __init__(self, program):
        self._program = program
        self._spans = {}
        self._found = {}

    def move(self, size, cells):
        """The move for the images of a cell of a table of this size."""
        if size not in self._spans:
            self._spans[size] = spans_of(self._program, size)
        shape = shape_with(cells)
        rounds = rounds_at(self._program, self._spans[size], shape, cells)
        # The same rounds do the same to all images that lie alike.
        if (shape, rounds) not in self._found:
            self._found[shape, rounds] = move_of(self._program, rounds, shape)
        return self._found[shape, rounds]


def move_of(program, rounds, shape):
    """The move that the deeds of a program in these rounds, told for each nest, are for images
    that lie in a shape."""
    truths = list(TRUTHS[:IMAGE_COUNTS[shape]])
    do_rounds(program.nests, rounds, shape, truths, ordered_truths)
    return tuple(truths)


def move_from(place, shape):
    """The move after which each image that lies in a shape has the entry of a place, told by
    its index, in the round of this image."""
    return tuple([TRUTHS[images[place]] for images in IMAGES_AT[shape]])


def ordered_truths(first, second):
    """The truths of the lesser and of the greater one of two entries."""
    return first & second, first | second


def staying(move):
    """The move of the same images that changes nothing."""
    return TRUTHS[:len(move)]


def origins(move):
    """The indexes of the images whose entries come to the images; None if it does not only
    move entries."""
    found = [TRUTHS.index(truth) for truth in move if truth in TRUTHS]
    return found if len(found) == len(move) else None


def least_states(truth):
    """The ascending list of the states in which a truth is 1, but would be 0 with fewer ones."""
    more = 0
    for index, own in enumerate(TRUTHS):
        more = more | (truth & ~own) << (1 << index)
    return bits_in(truth & ~more)


def formula(move, cells, cell):
    """The formula of the entry in one of the cells that a move is for."""
    states = least_states(move[cells.index(cell)])
    return tuple(sorted([tuple([cells[index] for index in bits_in(state)]) for state in states]))


def truth_behind(truth, move):
    """The truth that comes from a truth if a move is done ahead of it."""
    found = 0
    for state in least_states(truth):
        every = ALL_STATES
        for index in bits_in(state):
            every = every & move[index]
        found = found | every
    return found


def in_turn(first, second):
    """The move that does the first one, then the second one."""
    # Entries that the second one only moves are those that the first one put there.
    put = dict(zip(TRUTHS, first))
    return tuple([put[truth] if truth in put else truth_behind(truth, first) for truth in second])


def states_behind(move):
    """The list of the states behind a move, for each state at first."""
    many = 1 << len(move)
    # Written as digits, with those of the last image first.
    rows = [f"{truth:b}".zfill(256)[::-1][:many] for truth in move[::-1]]
    return [int("".join(digits), 2) for digits in zip(*rows)]


def tail_and_period(move):
    """The least numbers, the tail first, such that the move done tail + period times is the same
    as done tail times."""
    # A move of entries is told by the images that they come from, another one by all states.
    behind = origins(move)
    if behind is None:
        behind = states_behind(move)
    tail, period = 0, 1
    for start in range(len(behind)):
        steps, at = {}, start
        while at not in steps:
            steps[at] = len(steps)
            at = behind[at]
        tail = max(tail, steps[at])
        period = lcm(period, len(steps) - steps[at])
    return tail, period


def repeated(move, power):
    """The move done so many times."""
    left = power
    if power >= MANY_TIMES:
        tail, period = tail_and_period(move)
        left = tail + (power - tail) % period
    done, doubled = staying(move), move
    while left > 0:
        if left % 2 == 1:
            done = in_turn(done, doubled)
        doubled = in_turn(doubled, doubled)
        left //= 2
    return done


def is_one_to_one(move):
    """Whether different entries have different ones behind the move."""
    # Such a move only moves entries; see [17] of the document.
    return sorted(move) == sorted(staying(move))


def keeps_entries(move):
    """Whether the images have the same entries behind the move, in whatever order."""
    return count_digits(move) == count_digits(staying(move))


def count_digits(truths):
    """How many of the truths are 1, as a truth for each binary digit, the least digit first."""
    digits = []
    for truth in truths:
        more = truth
        added = []
        for digit in digits:
            added.append(digit ^ more)
            more = digit & more
        digits = added + [more]
    return digits


def taken_back(move):
    """The move that takes back one that is one-to-one."""
    return tuple([TRUTHS[move.index(truth)] for truth in staying(move)])


def reached(move, index):
    """The indexes of the images that hang on the entry of the image with this index."""
    return [image for image, truth in enumerate(move) if hangs_on(truth, index)]


def hangs_on(truth, index):
    """Whether a truth is not the same in some two states that differ only at this index."""
    without = ALL_STATES & ~TRUTHS[index]
    return (truth >> (1 << index) ^ truth) & without != 0


def moved(move, entries):
    """The entries of the images behind a move, for any integers."""
    starts = origins(move)
    if starts is not None:
        return [entries[start] for start in starts]
    state = 0
    steps = []
    # With 1 written for each entry of at least a bound, an image has a 1 behind the move
    # exactly if its entry is then at least the bound. So the greatest such bound is the entry.
    for entry, index in sorted([(entry, index) for index, entry in enumerate(entries)], reverse=True):
        state += 1 << index
        steps.append((entry, state))
    return [max([bound for bound, ones in steps if truth >> ones & 1]) for truth in move]
