"""Sayings about a library: tuples of a word, and of what it tells something about."""

from fromparts.base.words import is_integer

BUILDS = "builds"
LACKS = "lacks"
COUNT = "count"
USE = "use"
USEFUL = "useful"
EVERY = "every"
SOME = "some"
NONE = "none"


def is_saying(table, library, value):
    """Whether the value is a saying about parts of a library; `table` tells which texts have a type."""
    if not isinstance(value, tuple) or len(value) < 2 or not isinstance(value[0], str):
        return False
    if value[0] == USEFUL:
        return len(value) == 2 and value[1] in library
    if table.kind(value[1]) is None:
        return False
    if value[0] == COUNT:
        return len(value) == 3 and _is_many(value[2])
    if value[0] == USE:
        return len(value) == 4 and value[2] in library and _is_use(value[3])
    return value[0] in (BUILDS, LACKS) and len(value) == 2


def _is_many(value):
    return value is None or (is_integer(value) and value >= 0)


def _is_use(value):
    return isinstance(value, str) and value in (EVERY, SOME, NONE)


def is_about(library, saying):
    """Whether a library has the part that a saying is about, if it is about one."""
    part = _part_of(saying)
    return part is None or part in library


def _part_of(saying):
    if saying[0] == USEFUL:
        return saying[1]
    return saying[2] if saying[0] == USE else None


def with_name(saying, part, name):
    """The saying with another name for a part."""
    if _part_of(saying) != part:
        return saying
    return (USEFUL, name) if saying[0] == USEFUL else saying[:2] + (name,) + saying[3:]
