"""Books: programs under names, and wishes that hold for them."""

from squareloops.actions import Action, is_action_name
from squareloops.checks import is_name
from squareloops.errors import Broken, InUse, InvalidIndex, InvalidName, InvalidWish
from squareloops.errors import NothingToUndo, UnknownName
from squareloops.facts import agree, below, keeps
from squareloops.given import check_program, is_within

# The words of the forms of wishes, by how long these are.
WORDS = {3: ("does", "below"), 2: ("keeps", "stands")}


class Book:
    """Programs and wishes. It keeps a page, from which those that can come back are reached;
    pages never change."""

    def __init__(self):
        self._now = Page({}, (), None)

    def __setitem__(self, at, worth):
        if not is_name(at) or is_action_name(at):
            raise InvalidName(at)
        check_program(worth)
        programs = {**self._now.held, at: (worth, Action.of(worth))}
        for index, wish in enumerate(self._now.asked):
            # The others held ahead of this and are not about the program.
            if at in wish[1:]:
                check_wish(programs, wish, index)
        self._now = Page(programs, self._now.asked, self._now)

    def __getitem__(self, at):
        if at not in self:
            raise UnknownName(at)
        program, _ = self._now.held[at]
        return program

    def __iter__(self):
        raise TypeError("a book is not iterated over")

    def remove(self, name):
        """Takes a program away."""
        if name not in self:
            raise UnknownName(name)
        for index, wish in enumerate(self._now.asked):
            if name in wish[1:]:
                raise InUse(index)
        programs = {other: kept for other, kept in self._now.held.items() if other != name}
        self._now = Page(programs, self._now.asked, self._now)

    def wish(self, wish):
        """Makes a wish, behind the others."""
        if not is_wish(wish):
            raise InvalidWish(wish)
        _, *names = wish
        for place, name in enumerate(names):
            if name not in self and not (place == 1 and is_action_name(name)):
                raise UnknownName(name)
        check_wish(self._now.held, wish, len(self._now.asked))
        self._now = Page(self._now.held, (*self._now.asked, wish), self._now)

    def lift(self, index):
        """Takes a wish away."""
        wishes = self._now.asked
        if not is_within(index, 0, len(wishes) - 1):
            raise InvalidIndex(index)
        self._now = Page(self._now.held, wishes[:index] + wishes[index + 1:], self._now)

    def undo(self):
        """Takes back the last change that was not taken back."""
        if self._now.before is None:
            raise NothingToUndo()
        self._now = self._now.before

    @property
    def names(self):
        """The ascending tuple of the names."""
        return tuple(sorted(self._now.held))

    @property
    def wishes(self):
        """The tuple of the wishes."""
        return self._now.asked

    @property
    def changes(self):
        """How many changes can be taken back."""
        return self._now.many

    def trial(self):
        """For a `with` statement behind which the book is as it was if an exception ended it."""
        return BookTrial(self)

    def tried(self, work):
        """What a function returns for the book, which is as it was if an exception is raised."""
        with BookTrial(self) as book:
            return work(book)

    def __contains__(self, value):
        return isinstance(value, str) and value in self._now.held

    def __len__(self):
        return len(self._now.held)

    def __bool__(self):
        return True


class Page:
    """A dict of programs with their actions by names, wishes, and the page ahead of the last
    change, if any, with the number of the changes that lead here."""

    def __init__(self, held, asked, before):
        self.held = held
        self.asked = asked
        self.before = before
        self.many = 0 if before is None else before.many + 1


class BookTrial:
    """Keeps the page of a book at the start of a `with` statement."""

    def __init__(self, book):
        self._book = book
        self._kept = None

    def __enter__(self):
        self._kept = self._book._now
        return self._book

    def __exit__(self, kind, value, trace):
        book = self._book
        if kind is not None:
            book._now = self._kept


def is_wish(value):
    """Whether a value is a tuple of one of the forms of wishes, whatever the names are."""
    return (
        isinstance(value, tuple)
        and len(value) in WORDS
        and isinstance(value[0], str)
        and value[0] in WORDS[len(value)]
    )


def check_wish(programs, wish, index):
    """Raises the error if a wish is broken, which then has this index."""
    word, *names = wish
    actions = [action_called(programs, name) for name in names]
    size = breaking_sizes(word, actions).least
    if size is not None:
        raise Broken(index, size)


def action_called(programs, name):
    """The action of the program with a name, or the one that is named so."""
    if name in programs:
        _, action = programs[name]
        return action
    return Action.named(name)


def breaking_sizes(word, actions):
    """The sizes at which a wish with this word for these actions is broken."""
    one, other = actions[0], actions[-1]
    if word == "does":
        return ~agree(one, other)
    if word == "below":
        return ~(below(one, other) | one.falls & other.falls)
    if word == "keeps":
        return ~keeps(one)
    return one.falls
