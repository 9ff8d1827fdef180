"""Values of many kinds, for the places where an error is listed."""

from squareloops.actions import Action
from squareloops.programs import Nest, Program
from squareloops.sizes import Sizes


class Unfriendly:
    """An object that cannot be compared or shown, and that has no truth."""

    def __eq__(self, other):
        raise AssertionError("was compared")

    def __bool__(self):
        raise AssertionError("was asked for its truth")

    def __repr__(self):
        raise AssertionError("was shown")

    __hash__ = None


class Agreeing:
    """An object that says of every value that it equals it."""

    def __eq__(self, other):
        return True

    __hash__ = None


def nested(depth):
    """A tuple that is nested so deep."""
    return (nested(depth - 1),) if depth else ()


def no_strings():
    return [
        None, True, False, 0, 1, -1, 10 ** 39, (), ("0 to n",), [], ["0 to n"], {}, {"i": 1},
        {1, 2}, b"", b"0 to n", b"swap i,j j,i", bytearray(b"0 to n"), range(3), object(), str, len,
        Nest("0 to n", "0 to n"), Program(), Unfriendly(),
    ]


def no_nests():
    return [
        None, True, False, 0, 4, "", "0 to n", "i from 0 to n\nj from 0 to n", (), [], {},
        (Nest("0 to n", "0 to n"),), [Nest("0 to n", "0 to n")], Nest, Program, Program(),
        Program(Nest("0 to n", "0 to n")), ("0 to n", "0 to n"), Unfriendly(),
    ]


def no_integers():
    return [
        None, True, False, "", "1", "n", b"1", (), (1,), [], [1], {}, {1: 1}, {1}, range(1, 2), object(),
        int, len, nested(10), Program(), Unfriendly(), Agreeing(),
    ]


def no_sizes():
    return [0, -1, -2, 10 ** 30 + 1, 10 ** 39, -10 ** 30, *no_integers()]


def no_cells(size):
    """Values that are no cell of a table of this size."""
    last = size - 1
    return [
        *no_integers(), 0, 1, size, "00", "0,0", "i,j", [0, 0], [last, last], (0,), (0, 0, 0), (0, (0,)),
        (size, 0), (0, size), (size, size), (last, size), (size, last), (-1, 0), (0, -1), (-1, -1),
        (last, -1), (-size, 0), (True, 0), (0, True), (False, 0), (0, False), (False, False),
        ("0", 0), (0, "0"), (None, 0), (0, None), ((0,), 0), ((0, 0), 0), ((0, 0), (0, 0)), ((0, 0),),
        ([0], 0), (0, Unfriendly()), (Unfriendly(), 0), (Agreeing(), Agreeing()), {0: 0, 1: 0}, (10 ** 39, 0),
    ]


def no_programs():
    return [
        None, True, False, 0, 1, "", "i from 0 to n\nj from 0 to n", (), [], {}, Program,
        Nest("0 to n", "0 to n"), (Program(),), [Program()], (Nest("0 to n", "0 to n"),), object(),
        Unfriendly(), Agreeing(),
    ]


def no_tables():
    """Values that are no table of a size from 1 to 12."""
    thirteen = ((0,) * 13,) * 13
    return [
        *no_integers(), 0, 1, 3, ((),), ((), ()), (((),),), ((1, 2),), ((1,), (2,)), (1, 2), ((1, 2), 3),
        ((1, 2), (3,)), ((1,), (2, 3)), ((1, 2), (3, 4, 5)), ((1, 2), (3, 4), (5, 6)), ((1, 2, 3), (4, 5, 6)),
        [(1,)], ([1],), [[1]], ((1, 2), [3, 4]), ([1, 2], (3, 4)), [(1, 2), (3, 4)], ((1, 2), "34"), ("12", "34"),
        ((True,),), ((False,),), ((1, 2), (3, True)), ((1, False), (3, 4)), ((None,),), (("1",),), ((1, 2), (3, "4")),
        ((1, 2), (3, None)), (((1,), 2), (3, 4)), ((Unfriendly(),),), ((1, 2), (3, Agreeing())), ((1, 2), Unfriendly()),
        ((1, 2), {3, 4}), ({1: 1},), thirteen, ((0,) * 12,) * 13, ((0,) * 13,) * 12, ((0,) * 12,) * 11,
        ((0,) * 12,) * 11 + ((0,) * 11,), ((0,) * 12,) * 11 + ((0,) * 11 + (True,),),
    ]


def no_actions():
    return [
        None, True, False, 0, 1, "", "right", (), [], {}, Action, Action.named, Program(), Sizes(),
        Nest("0 to n", "0 to n"), (Action.named("same"),), [Action.named("same")], object(),
        Unfriendly(), Agreeing(),
    ]
