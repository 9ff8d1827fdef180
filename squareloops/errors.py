"""The errors of the package.

Each class belongs to one base class only, so nothing else is shared by them.
"""


class WrongValue(ValueError):
    """A value is not of the kind or form that is asked for."""

    def __repr__(self):
        return "".join([self.__class__.__name__, "(", str(self), ")"])


class InvalidLoop(WrongValue):
    """What was passed is no loop that can stand there."""

    def __init__(self, given):
        self.given = given

    def __str__(self):
        return f"given={self.given!r}"


class InvalidText(WrongValue):
    """What was passed is no text of a program."""

    def __init__(self, given):
        self.given = given

    def __str__(self):
        return f"given={self.given!r}"


class InvalidSize(WrongValue):
    """What was passed is no size that can be asked for there."""

    def __init__(self, given):
        self.given = given

    def __str__(self):
        return f"given={self.given!r}"


class InvalidCell(WrongValue):
    """What was passed is no cell of the table."""

    def __init__(self, given):
        self.given = given

    def __str__(self):
        return f"given={self.given!r}"


class InvalidKind(WrongValue):
    """What was passed is no kind of cells."""

    def __init__(self, given):
        self.given = given

    def __str__(self):
        return f"given={self.given!r}"


class InvalidTable(WrongValue):
    """What was passed is no table that can stand there."""

    def __init__(self, given):
        self.given = given

    def __str__(self):
        return f"given={self.given!r}"


class InvalidEntry(WrongValue):
    """What was passed is no entry of a table."""

    def __init__(self, given):
        self.given = given

    def __str__(self):
        return f"given={self.given!r}"


class InvalidPower(WrongValue):
    """What was passed is no power of an action."""

    def __init__(self, given):
        self.given = given

    def __str__(self):
        return f"given={self.given!r}"


class InvalidCount(WrongValue):
    """What was passed is no count that can be asked for."""

    def __init__(self, given):
        self.given = given

    def __str__(self):
        return f"given={self.given!r}"


class InvalidTail(WrongValue):
    """What was passed is no size from which on a set goes on."""

    def __init__(self, given):
        self.given = given

    def __str__(self):
        return f"given={self.given!r}"


class InvalidName(WrongValue):
    """What was passed is no name that a program can have."""

    def __init__(self, given):
        self.given = given

    def __str__(self):
        return f"given={self.given!r}"


class InvalidWish(WrongValue):
    """What was passed is no wish."""

    def __init__(self, given):
        self.given = given

    def __str__(self):
        return f"given={self.given!r}"


class InvalidIndex(WrongValue):
    """What was passed is no index of a wish."""

    def __init__(self, given):
        self.given = given

    def __str__(self):
        return f"given={self.given!r}"


class NotAProgram(WrongValue):
    """What was passed is no Program."""

    def __init__(self, given):
        self.given = given

    def __str__(self):
        return f"given={self.given!r}"


class NotAnAction(WrongValue):
    """What was passed is no Action."""

    def __init__(self, given):
        self.given = given

    def __str__(self):
        return f"given={self.given!r}"


class InvalidDeeds(WrongValue):
    """The value at this index is no deed, or is one too many."""

    def __init__(self, index):
        self.index = index

    def __str__(self):
        return f"index={self.index!r}"


class InvalidNests(WrongValue):
    """The value at this index is no Nest, or is one too many."""

    def __init__(self, index):
        self.index = index

    def __str__(self):
        return f"index={self.index!r}"


class InvalidListed(WrongValue):
    """The value at this index cannot stand there in a list of sizes."""

    def __init__(self, index):
        self.index = index

    def __str__(self):
        return f"index={self.index!r}"


class InvalidChanges(WrongValue):
    """The value at this index is no change, or is one too many."""

    def __init__(self, index):
        self.index = index

    def __str__(self):
        return f"index={self.index!r}"


class InvalidPrograms(WrongValue):
    """The value at this index is no Program, or is one too many."""

    def __init__(self, index):
        self.index = index

    def __str__(self):
        return f"index={self.index!r}"


class WrongName(LookupError):
    """A name is not there, or cannot be taken away."""

    def __repr__(self):
        return "".join([self.__class__.__name__, "(", str(self), ")"])


class UnknownName(WrongName):
    """There is nothing with the name that was passed."""

    def __init__(self, given):
        self.given = given

    def __str__(self):
        return f"given={self.given!r}"


class InUse(WrongName):
    """The wish at this index names the program."""

    def __init__(self, index):
        self.index = index

    def __str__(self):
        return f"index={self.index!r}"


class NoAnswer(ArithmeticError):
    """There is no answer, though all values are as they should be."""

    def __repr__(self):
        return "".join([self.__class__.__name__, "(", str(self), ")"])


class Falls(NoAnswer):
    """A program or an action falls at this size."""

    def __init__(self, size):
        self.size = size

    def __str__(self):
        return f"size={self.size!r}"


class NotOneToOne(NoAnswer):
    """An action is not one-to-one at this size."""

    def __init__(self, size):
        self.size = size

    def __str__(self):
        return f"size={self.size!r}"


class NothingToUndo(NoAnswer):
    """Nothing is left that can be taken back."""


class Broken(NoAnswer):
    """The wish at this index is broken at this size."""

    def __init__(self, index, size):
        self.index = index
        self.size = size

    def __str__(self):
        return f"index={self.index!r}, size={self.size!r}"
