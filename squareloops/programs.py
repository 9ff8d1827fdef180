"""Nests of loops, and programs of nests."""

from squareloops.checks import INNER_START, OUTER_START
from squareloops.checks import behind, first_wrong, is_inner_loop, is_outer_loop
from squareloops.checks import is_program_text, rows_by_nest, wrong_deed
from squareloops.errors import InvalidDeeds, InvalidLoop, InvalidNests, InvalidText
from squareloops.limits import MOST_NESTS


class Nest:
    """An outer loop, an inner loop, and the deeds of each round."""

    def __init__(self, outer, inner, *deeds):
        if not is_outer_loop(outer):
            raise InvalidLoop(outer)
        if not is_inner_loop(inner):
            raise InvalidLoop(inner)
        index = wrong_deed(deeds)
        if index is not None:
            raise InvalidDeeds(index)
        self._outer = outer
        self._inner = inner
        self._deeds = deeds

    @property
    def outer(self):
        """The outer loop."""
        return self._outer

    @property
    def inner(self):
        """The inner loop."""
        return self._inner

    @property
    def deeds(self):
        """The tuple of the deeds."""
        return self._deeds

    def __len__(self):
        return len(self._deeds)

    def __bool__(self):
        return True

    def __eq__(self, other):
        return (
            isinstance(other, Nest)
            and self._outer == other._outer
            and self._inner == other._inner
            and self._deeds == other._deeds
        )


class Program:
    """Nests that are done one behind the other."""

    def __init__(self, *nests):
        index = first_wrong([isinstance(nest, Nest) for nest in nests], MOST_NESTS)
        if index is not None:
            raise InvalidNests(index)
        self._nests = nests

    @classmethod
    def read(cls, text):
        """The program with this text."""
        if not is_program_text(text):
            raise InvalidText(text)
        nests = [nest_of_rows(rows) for rows in rows_by_nest(text)]
        return cls(*nests)

    @property
    def nests(self):
        """The tuple of the nests."""
        return self._nests

    def __len__(self):
        return len(self._nests)

    def __bool__(self):
        return True

    def __eq__(self, other):
        # Equal nests have equal texts, and others have different ones.
        return isinstance(other, Program) and self._nests == other._nests

    def __str__(self):
        return "\n".join([nest_text(nest) for nest in self._nests])

    def __repr__(self):
        return f"Program of {len(self._nests)} nests, {sum([len(nest) for nest in self._nests])} deeds"

    def __add__(self, other):
        nests = self._nests + other._nests
        return Program(*nests)


def nest_text(nest):
    """The text of a nest."""
    deeds = nest.deeds
    return "\n".join([f"{OUTER_START}{nest.outer}", f"{INNER_START}{nest.inner}", *deeds])


def nest_of_rows(rows):
    """The nest whose text has these rows."""
    outer, inner, *deeds = rows
    return Nest(behind(OUTER_START, outer), behind(INNER_START, inner), *deeds)
