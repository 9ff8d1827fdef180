"""Checks of what is passed: names, loops, deeds, and the rows of texts."""

from squareloops.limits import MOST_DEEDS, MOST_NESTS, PLACES

OUTER_START = "i from "
INNER_START = "j from "

OUTER_BOUNDS = (
    "-1", "0", "1", "n-1", "n", "n+1", "n//2-1", "n//2", "n//2+1",
    "(n+1)//2-1", "(n+1)//2", "(n+1)//2+1",
)
BOUNDS_WITH_I = ("i-1", "i", "i+1", "n-i-1", "n-i", "n-i+1")

# The least and the greatest number of places behind each word.
PLACE_COUNTS = {"swap": (2, 2), "copy": (2, 2), "order": (2, 2), "turn": (3, 8)}

# The numbers that a condition compares, with their indexes among those of a round.
NUMBERS = {"i": 0, "j": 1, "~i": 2, "~j": 3}
COMPARISONS = ("<", "<=", "==", "!=")

LETTERS = "abcdefghijklmnopqrstuvwxyz"
DIGITS = "0123456789"
MOST_CHARACTERS = 8


def is_name(value):
    """Whether a value is a name."""
    return (
        isinstance(value, str)
        and 1 <= len(value) <= MOST_CHARACTERS
        and value[0] in LETTERS
        and all([character in LETTERS + DIGITS for character in value])
    )


def first_wrong(rights, most):
    """The index of the first value that is not right or is one too many; None if there is none."""
    for index, right in enumerate(rights):
        if index == most or not right:
            return index
    return None


def is_outer_loop(value):
    """Whether a value is a loop with bounds that an outer loop can have."""
    return is_loop(value, OUTER_BOUNDS)


def is_inner_loop(value):
    """Whether a value is a loop."""
    return is_loop(value, OUTER_BOUNDS + BOUNDS_WITH_I)


def is_loop(value, bounds):
    """Whether a value is a loop with some of these bounds."""
    if not isinstance(value, str):
        return False
    words = value.split(" ")
    if words[-1] == "down":
        words = words[:-1]
    return len(words) == 3 and words[0] in bounds and words[1] == "to" and words[2] in bounds


def deed_parts(deed):
    """The word, the places and the condition (three words, or none) of a deed."""
    words = deed.split(" ")
    if len(words) > 4 and words[-4] == "if":
        return words[0], words[1:-4], words[-3:]
    return words[0], words[1:], []


def is_deed(value):
    """Whether a value is a deed."""
    if not isinstance(value, str):
        return False
    word, places, condition = deed_parts(value)
    return are_places(word, places) and is_condition(condition)


def are_places(word, places):
    """Whether a word begins a deed and these places can stand behind it."""
    if word not in PLACE_COUNTS:
        return False
    least, most = PLACE_COUNTS[word]
    return (
        least <= len(places) <= most
        and len(set(places)) == len(places)
        and all([place in PLACES for place in places])
    )


def is_condition(words):
    """Whether the words are no condition at all or a right one."""
    if not words:
        return True
    left, sign, right = words
    return left in NUMBERS and sign in COMPARISONS and right in NUMBERS and left != right


def wrong_deed(deeds):
    """The index of the first value that cannot stand there among deeds, or None."""
    return first_wrong([is_deed(deed) for deed in deeds], MOST_DEEDS)


def behind(start, row):
    """What stands behind the start of a row; None if the row does not begin so."""
    return row.removeprefix(start) if row.startswith(start) else None


def rows_by_nest(text):
    """The rows of a text, cut ahead of each row of an outer loop."""
    if text == "":
        return []
    parts = []
    for row in text.split("\n"):
        if not parts or row.startswith(OUTER_START):
            parts.append([])
        parts[-1].append(row)
    return parts


def are_nest_rows(rows):
    """Whether the rows are those of the text of a nest."""
    if len(rows) < 2:
        return False
    outer, inner, *deeds = rows
    return (
        is_outer_loop(behind(OUTER_START, outer))
        and is_inner_loop(behind(INNER_START, inner))
        and wrong_deed(deeds) is None
    )


def is_program_text(value):
    """Whether a value is the text of a program."""
    if not isinstance(value, str):
        return False
    parts = rows_by_nest(value)
    return len(parts) <= MOST_NESTS and all([are_nest_rows(rows) for rows in parts])
