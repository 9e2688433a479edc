"""The errors of the package, one class for each kind of failure."""


def _kept(value):
    """An equal value that does not change when lists and dicts in the given one do."""
    if isinstance(value, list):
        return [_kept(one) for one in value]
    if isinstance(value, tuple):
        return tuple([_kept(one) for one in value])
    if isinstance(value, dict):
        return {name: _kept(value[name]) for name in value}
    return value


class BuildError(ValueError):
    """A value that is not of the kind that is due."""


class InvalidWord(BuildError):
    """No word."""


class InvalidType(BuildError):
    """No type, or one that is too large."""


class InvalidLibrary(BuildError):
    """No library, or one with too many parts."""


class InvalidProgram(BuildError):
    """No program, or none of the type that is due."""


class InvalidQuestion(BuildError):
    """No question, or none that is asked."""


class InvalidRoom(BuildError):
    """No room."""


class InvalidDraft(BuildError):
    """No draft."""


class InvalidOperation(BuildError):
    """An argument with which the operation cannot be done."""


class ParseError(BuildError):
    """A text that is the text of no value; `line` is the index of the line, or None."""

    def __init__(self, line):
        BuildError.__init__(self, f"no text of such a value, line {line!r}")
        self.line = _kept(line)


class UnknownWord(KeyError):
    """A word that is asked for, but not there."""

    def __init__(self, asked):
        KeyError.__init__(self, f"unknown word {asked!r}")
        self.asked = _kept(asked)


class NoProgram(LookupError):
    """A type that has no program."""

    def __init__(self, wanted):
        LookupError.__init__(self, f"no program of {wanted!r}")
        self.wanted = _kept(wanted)


class NothingToUndo(IndexError):
    """More changes to take back, or to do again, than there are."""

    def __init__(self, amount):
        IndexError.__init__(self, f"fewer changes than {amount!r}")
        self.amount = _kept(amount)


class TooMany(OverflowError):
    """More than a limit lets."""

    def __init__(self, limit):
        OverflowError.__init__(self, f"more than {limit!r}")
        self.limit = _kept(limit)


class Refused(ArithmeticError):
    """A change that a pinned saying forbids."""

    def __init__(self, cause):
        ArithmeticError.__init__(self, f"refused by {cause!r}")
        self.cause = _kept(cause)


class InvalidNumber(RuntimeError):
    """No integer, or none in the range that is due."""

    def __init__(self, number):
        RuntimeError.__init__(self, f"no number that is due: {number!r}")
        self.number = _kept(number)
