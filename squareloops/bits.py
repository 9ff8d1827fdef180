"""Numbers whose bits tell what belongs to something."""


def has_bit(bits, index):
    """Whether the bit with an index is 1."""
    return bits >> index & 1 == 1


def with_bits(indexes):
    """The number in which just the bits with these indexes are 1, none of them given twice."""
    return sum([1 << index for index in indexes])


def least_bit(bits):
    """The index of the least bit that is 1, of a number other than 0."""
    return (bits & -bits).bit_length() - 1


def bits_in(bits):
    """The ascending list of the indexes of the bits that are 1."""
    found = []
    left = bits
    while left:
        found.append(least_bit(left))
        left = left & (left - 1)
    return found
