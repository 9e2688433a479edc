"""Sayings about a library: tuples of a word, and of what it tells something about."""

from fromparts.ask.questions import builds
from fromparts.base.types import Type
from fromparts.base.words import is_integer
from fromparts.count.counts import count
from fromparts.errors import NoProgram, ParseError
from fromparts.part.uses import is_useful, use_of

_BUILDS = "builds"
_LACKS = "lacks"
_COUNT = "count"
_USE = "use"
_USEFUL = "useful"
_USES = ("every", "some", "none")


def is_saying(library, value):
    """Whether the value is a saying about parts of a library."""
    if not isinstance(value, tuple) or len(value) < 2 or not isinstance(value[0], str):
        return False
    if value[0] == _USEFUL:
        return len(value) == 2 and value[1] in library
    if not _is_text(value[1]):
        return False
    if value[0] == _COUNT:
        return len(value) == 3 and _is_many(value[2])
    if value[0] == _USE:
        return len(value) == 4 and value[2] in library and isinstance(value[3], str) and value[3] in _USES
    return value[0] in (_BUILDS, _LACKS) and len(value) == 2


def _is_text(value):
    """Whether the value is the text of a type."""
    try:
        Type.read(value)
    except ParseError:
        return False
    return True


def _is_many(value):
    return value is None or (is_integer(value) and value >= 0)


def is_about(library, saying):
    """Whether a library has the part that a saying is about, if it is about one."""
    part = _part_of(saying)
    return part is None or part in library


def _part_of(saying):
    if saying[0] == _USEFUL:
        return saying[1]
    return saying[2] if saying[0] == _USE else None


def with_name(saying, part, name):
    """The saying with another name for a part."""
    if _part_of(saying) != part:
        return saying
    return (_USEFUL, name) if saying[0] == _USEFUL else saying[:2] + (name,) + saying[3:]


def holds_in(library, saying):
    """Whether a saying about parts of a library holds."""
    if saying[0] == _USEFUL:
        return is_useful(library, saying[1])
    goal = Type.read(saying[1])
    if saying[0] == _COUNT:
        return count(library, goal) == saying[2]
    if saying[0] == _USE:
        return _has_use(library, goal, saying[2], saying[3])
    return builds(library, goal) == (saying[0] == _BUILDS)


def _has_use(library, goal, part, use):
    try:
        return use_of(library, goal, part) == use
    except NoProgram:
        return False
