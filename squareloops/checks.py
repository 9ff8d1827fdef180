"""Checks of names, and of values one behind the other."""

LETTERS = "abcdefghijklmnopqrstuvwxyz"
DIGITS = "0123456789"
MOST_CHARACTERS = 8


def is_name(value):
    """Whether a value is a name."""
    return (
        isinstance(value, str)
        and 1 <= len(value) <= MOST_CHARACTERS
        and value[0] in LETTERS
        and all([character in LETTERS + DIGITS for character in value])
    )


def first_wrong(rights, most):
    """The index of the first value that is not right or is one too many; None if there is none."""
    for index, right in enumerate(rights):
        if index == most or not right:
            return index
    return None
