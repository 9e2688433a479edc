"""Pieces of texts: lines and numbers."""

from fromparts.errors import ParseError

_NONE = "none"
_DIGITS = "0123456789"
_MAX_DIGITS = 60


def text_of_lines(lines):
    """The text with these lines, of which there can be none."""
    return "\n".join(lines) if lines else _NONE


def lines_of(text):
    """The lines of a text."""
    if not isinstance(text, str):
        raise ParseError(None)
    return [] if text == _NONE else text.split("\n")


def number_of(text):
    """The integer of at least 0 that is written so, or None."""
    if not 1 <= len(text) <= _MAX_DIGITS or not all([letter in _DIGITS for letter in text]):
        return None
    # A number is written without zeros ahead of its first digit.
    return int(text) if str(int(text)) == text else None


def integer_of(text):
    """The integer that is written so, or None."""
    if not text.startswith("-"):
        return number_of(text)
    number = number_of(text[1:])
    return None if number is None or number == 0 else -number
