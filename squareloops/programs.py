"""Nests of loops, and programs of nests."""

from squareloops.bounds import read_loop, read_outer_loop
from squareloops.checks import first_wrong
from squareloops.deeds import read_deed
from squareloops.errors import InvalidDeeds, InvalidLoop, InvalidNests, InvalidText
from squareloops.limits import MOST_DEEDS, MOST_NESTS
from squareloops.places import ORDERS

OUTER_START = "i from "
INNER_START = "j from "


class Nest:
    """An outer loop, an inner loop, and the deeds of each round. It also keeps what was read
    in them: the four bounds, the orders of rounds by shapes, and the plans of the deeds."""

    def __init__(self, outer, inner, *deeds):
        outer_loop, inner_loop = read_outer_loop(outer), read_loop(inner)
        if outer_loop is None:
            raise InvalidLoop(outer)
        if inner_loop is None:
            raise InvalidLoop(inner)
        plans = [read_deed(deed) for deed in deeds]
        index = first_wrong([plan is not None for plan in plans], MOST_DEEDS)
        if index is not None:
            raise InvalidDeeds(index)
        self._outer = outer
        self._inner = inner
        self._deeds = deeds
        start, stop, outer_descends = outer_loop
        low, high, inner_descends = inner_loop
        self.bounds = start, stop, low, high
        self.orders = ORDERS[outer_descends, inner_descends]
        self.plans = tuple(plans)

    @property
    def outer(self):
        """The outer loop."""
        return self._outer

    @property
    def inner(self):
        """The inner loop."""
        return self._inner

    @property
    def deeds(self):
        """The tuple of the deeds."""
        return self._deeds

    def __len__(self):
        return len(self._deeds)

    def __bool__(self):
        return True

    def __eq__(self, other):
        return (
            isinstance(other, Nest)
            and self._outer == other._outer
            and self._inner == other._inner
            and self._deeds == other._deeds
        )


class Program:
    """Nests that are done one behind the other."""

    def __init__(self, *nests):
        index = first_wrong([isinstance(nest, Nest) for nest in nests], MOST_NESTS)
        if index is not None:
            raise InvalidNests(index)
        self._nests = nests

    @classmethod
    def read(cls, text):
        """The program with this text."""
        if not isinstance(text, str):
            raise InvalidText(text)
        try:
            nests = [nest_of_rows(rows) for rows in rows_by_nest(text)]
            return cls(*nests)
        except (InvalidLoop, InvalidDeeds, InvalidNests):
            raise InvalidText(text) from None

    @property
    def nests(self):
        """The tuple of the nests."""
        return self._nests

    def __len__(self):
        return len(self._nests)

    def __bool__(self):
        return True

    def __eq__(self, other):
        # Equal nests have equal texts, and others have different ones.
        return isinstance(other, Program) and self._nests == other._nests

    def __str__(self):
        return "\n".join([nest_text(nest) for nest in self._nests])

    def __repr__(self):
        return f"Program of {len(self._nests)} nests, {sum([len(nest) for nest in self._nests])} deeds"

    def __add__(self, other):
        nests = self._nests + other._nests
        return Program(*nests)


def nest_text(nest):
    """The text of a nest."""
    deeds = nest.deeds
    return "\n".join([f"{OUTER_START}{nest.outer}", f"{INNER_START}{nest.inner}", *deeds])


def rows_by_nest(text):
    """The rows of a text, cut ahead of each row of an outer loop."""
    if text == "":
        return []
    parts = []
    for row in text.split("\n"):
        if not parts or row.startswith(OUTER_START):
            parts.append([])
        parts[-1].append(row)
    return parts


def nest_of_rows(rows):
    """The nest whose text has these rows."""
    # The empty string in the place of a missing row is no loop.
    outer, inner, *deeds = rows if len(rows) > 1 else (*rows, "")
    return Nest(behind(OUTER_START, outer), behind(INNER_START, inner), *deeds)


def behind(start, row):
    """What stands behind the start of a row; None if the row does not begin so."""
    return row.removeprefix(start) if row.startswith(start) else None
