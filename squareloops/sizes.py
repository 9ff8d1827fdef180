"""Sets of sizes: some of their own, and all even or odd ones from a size on."""

from squareloops.bits import bits_in, has_bit, least_bit, with_bits
from squareloops.errors import InvalidCount, InvalidListed, InvalidTail
from squareloops.given import is_whole, is_within
from squareloops.limits import MOST_LISTED

# No tail of a set begins behind these two sizes, because what makes a set ends at
# MOST_LISTED. So they tell for all odd and all even sizes behind them.
LAST_ODD = 201
LAST_EVEN = 202

MOST_ASCENDING = 1000


class Sizes:
    """A set of sizes, kept as a number in which the bit of each size up to LAST_EVEN tells
    whether the size belongs to the set."""

    def __init__(self, listed=(), *, even=None, odd=None):
        if not isinstance(listed, tuple):
            raise InvalidListed(None)
        index = wrong_listed(listed)
        if index is not None:
            raise InvalidListed(index)
        check_tail(even, 0)
        check_tail(odd, 1)
        self._bits = with_bits(listed) | tail_bits(even) | tail_bits(odd)

    @property
    def even(self):
        """The least even size from which on all even sizes are in the set, or None."""
        return tail_start(self._bits, LAST_EVEN)

    @property
    def odd(self):
        """The least odd size from which on all odd sizes are in the set, or None."""
        return tail_start(self._bits, LAST_ODD)

    @property
    def listed(self):
        """The ascending tuple of all other sizes of the set."""
        tails = tail_bits(self.even) | tail_bits(self.odd)
        return tuple(bits_in(self._bits & ~tails))

    @property
    def least(self):
        """The least size of the set, or None."""
        return least_bit(self._bits) if self._bits else None

    def __eq__(self, other):
        return isinstance(other, Sizes) and self._bits == other._bits

    def __bool__(self):
        return bool(self._bits)

    def __contains__(self, value):
        return is_whole(value) and value > 0 and has_bit(self._bits, standing_for(value))

    def __and__(self, other):
        return set_with(self._bits & other._bits)

    def __or__(self, other):
        return set_with(self._bits | other._bits)

    def __sub__(self, other):
        return set_with(self._bits & ~other._bits)

    def __invert__(self):
        return set_with((tail_bits(1) | tail_bits(2)) & ~self._bits)

    def within(self, other):
        """Whether all sizes of this set are in the other one."""
        return self._bits & ~other._bits == 0

    def ascending(self, count):
        """Yields the least sizes of the set, as many as asked for if there are so many."""
        if not is_within(count, 0, MOST_ASCENDING):
            raise InvalidCount(count)
        has_tail = self._bits >> LAST_ODD > 0
        size, left = 1, count
        while left > 0 and (has_tail or size <= LAST_EVEN):
            if has_bit(self._bits, standing_for(size)):
                yield size
                left -= 1
            size += 1

    def __str__(self):
        parts = [str(size) for size in self.listed]
        if self.even is not None:
            parts.append(f"even from {self.even}")
        if self.odd is not None:
            parts.append(f"odd from {self.odd}")
        return ", ".join(parts or ["none"])


def wrong_listed(listed):
    """The index of the first value that cannot be listed there, or None."""
    before = 0
    for index, size in enumerate(listed):
        if not is_within(size, before + 1, MOST_LISTED):
            return index
        before = size
    return None


def check_tail(start, parity):
    """Raises the error for what can be no start of a tail."""
    if start is None:
        return
    if not is_within(start, 1, MOST_LISTED) or start % 2 != parity:
        raise InvalidTail(start)


def set_with(bits):
    """The set with these bits."""
    made = Sizes()
    made._bits = bits
    return made


def size_bits(sizes):
    """A set of sizes as a number with a bit for each size up to LAST_EVEN."""
    return sizes._bits


def tail_bits(start):
    """The bits of every second size from a start on; none for None."""
    return 0 if start is None else with_bits(list(range(start, LAST_EVEN + 1, 2)))


def standing_for(size):
    """The size up to LAST_EVEN that is in the same sets as this one."""
    return size if size <= LAST_EVEN else LAST_EVEN - size % 2


def tail_start(bits, last):
    """The start of the tail to which the last odd or even size belongs, or None."""
    if not has_bit(bits, last):
        return None
    start = last
    while start > 2 and has_bit(bits, start - 2):
        start -= 2
    return start
