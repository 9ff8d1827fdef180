"""Values of many kinds, for the places where an error is listed."""

from squareloops.programs import Nest, Program


class Unfriendly:
    """An object that cannot be compared or shown, and that has no truth."""

    def __eq__(self, other):
        raise AssertionError("was compared")

    def __bool__(self):
        raise AssertionError("was asked for its truth")

    def __repr__(self):
        raise AssertionError("was shown")

    __hash__ = None


def no_strings():
    return [
        None, True, False, 0, 1, -1, 10 ** 39, (), ("0 to n",), [], ["0 to n"], {}, {"i": 1},
        {1, 2}, b"", b"0 to n", b"swap i,j j,i", bytearray(b"0 to n"), range(3), object(), str, len,
        Nest("0 to n", "0 to n"), Program(), Unfriendly(),
    ]


def no_nests():
    return [
        None, True, False, 0, 4, "", "0 to n", "i from 0 to n\nj from 0 to n", (), [], {},
        (Nest("0 to n", "0 to n"),), [Nest("0 to n", "0 to n")], Nest, Program, Program(),
        Program(Nest("0 to n", "0 to n")), ("0 to n", "0 to n"), Unfriendly(),
    ]
