"""What can be left out of a program, which changes mend it, and which sizes must be tried."""

from squareloops.actions import Action, check_action
from squareloops.bits import with_bits
from squareloops.bounds import read_loop, read_outer_loop
from squareloops.checks import first_wrong
from squareloops.deeds import read_deed
from squareloops.errors import InvalidChanges, InvalidPrograms
from squareloops.facts import parting_sizes
from squareloops.given import check_program, is_within
from squareloops.limits import MOST_CHANGES, MOST_PROGRAMS
from squareloops.orbits import LAST_DECIDING
from squareloops.programs import Nest, Program


def trimmed(program):
    """The program without the deeds that can be left out, gone through once in their order."""
    check_program(program)
    wish = Action.of(program)
    for index in range(len(program)):
        deed = 0
        while deed < len(program.nests[index]):
            shorter = without_deed(program, index, deed)
            if Action.of(shorter) == wish:
                program = shorter
            else:
                deed += 1
    return program


def mends(program, wish, changes):
    """The tuple of all least sets of changes that mend a program, as tuples of their indexes."""
    check_program(program)
    check_action(wish)
    if not isinstance(changes, tuple):
        raise InvalidChanges(None)
    index = first_wrong([is_change(program, change) for change in changes], MOST_CHANGES)
    if index is not None:
        raise InvalidChanges(index)
    found = []
    for indexes in all_sets(len(changes)):
        chosen = [changes[at] for at in indexes]
        if not any([is_part(least, indexes) for least in found]) and do_mend(program, wish, chosen):
            found.append(indexes)
    return tuple(found)


def test_sizes(programs, wish):
    """The least ascending tuple of as few sizes as possible that show each of the programs
    whose action is not the wished one."""
    if not isinstance(programs, tuple):
        raise InvalidPrograms(None)
    index = first_wrong([isinstance(program, Program) for program in programs], MOST_PROGRAMS)
    if index is not None:
        raise InvalidPrograms(index)
    check_action(wish)
    wrong = [parting_sizes(Action.of(program), wish) for program in programs]
    wrong = [sizes for sizes in wrong if sizes]
    tried = [()]
    # All sizes that decide show all these programs, so this ends with them at the latest.
    while True:
        for sizes in tried:
            if all([with_bits(sizes) & shown for shown in wrong]):
                return sizes
        tried = one_more(tried, 1, LAST_DECIDING)


def is_change(program, value):
    """Whether a value is a change of a program."""
    if not isinstance(value, tuple) or len(value) != 3:
        return False
    nest, part, row = value
    if not is_within(nest, 0, len(program) - 1):
        return False
    if isinstance(part, str):
        if part == "outer":
            return read_outer_loop(row) is not None
        return part == "inner" and read_loop(row) is not None
    return is_within(part, 0, len(program.nests[nest]) - 1) and read_deed(row) is not None


def do_mend(program, wish, changes):
    """Whether these changes are of different parts and make the action the wished one."""
    if len({(nest, part) for nest, part, _ in changes}) < len(changes):
        return False
    for nest, part, row in changes:
        program = with_nest(program, nest, with_row(program.nests[nest], part, row))
    return Action.of(program) == wish


def with_row(nest, part, row):
    """The nest with another row in the place of a loop or a deed."""
    outer, inner, deeds = nest.outer, nest.inner, nest.deeds
    if part == "outer":
        outer = row
    elif part == "inner":
        inner = row
    else:
        deeds = deeds[:part] + (row,) + deeds[part + 1:]
    return Nest(outer, inner, *deeds)


def without_deed(program, index, deed):
    """The program without one deed of the nest with this index."""
    nest = program.nests[index]
    deeds = nest.deeds[:deed] + nest.deeds[deed + 1:]
    return with_nest(program, index, Nest(nest.outer, nest.inner, *deeds))


def with_nest(program, index, nest):
    """The program with another nest in the place of one."""
    nests = program.nests[:index] + (nest,) + program.nests[index + 1:]
    return Program(*nests)


def all_sets(count):
    """All ascending tuples of indexes below a count, the shorter ones first, then ascending."""
    found, longest = [()], [()]
    for _ in range(count):
        longest = one_more(longest, 0, count - 1)
        found = found + longest
    return found


def one_more(rows, first, last):
    """All ascending tuples of numbers from the first to the last one that are ascending tuples
    of these rows with one number more, in the same order."""
    return [
        (*row, more) for row in rows
        for more in range(row[-1] + 1 if row else first, last + 1)
    ]


def is_part(one, other):
    """Whether all indexes of the one set are in the other one."""
    return all([index in other for index in one])
