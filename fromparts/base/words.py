"""Integers, words, and the texts of variables."""

MAX_LETTERS = 8
GAP = "?"
VARIABLE = "x"


def is_integer(value):
    """Whether the value is an integer of at most sixty digits."""
    return isinstance(value, int) and not isinstance(value, bool) and abs(value) < 10 ** 60


def is_word(value):
    """Whether the value is a string of one to eight letters a to z."""
    if not isinstance(value, str) or not 1 <= len(value) <= MAX_LETTERS:
        return False
    return all(["a" <= letter <= "z" for letter in value])


def is_variable(value):
    """Whether the value is the text of a variable, x0 to x99."""
    if not isinstance(value, str) or not 2 <= len(value) <= 3 or value[0] != VARIABLE:
        return False
    level = value[1:]
    # str writes no 0 ahead of other digits, so x0 stands for itself, but x00 and x07 for nothing.
    return all(["0" <= digit <= "9" for digit in level]) and str(int(level)) == level
