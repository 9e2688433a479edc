"""The order of libraries: which library builds all that another one builds."""

from fromparts.ask.questions import builds
from fromparts.base.programs import check_program, is_program
from fromparts.base.types import Type
from fromparts.errors import InvalidOperation, NoProgram, TooMany
from fromparts.part.finding import least_sets, small_program
from fromparts.put.putting import are_puts, check_library, own_program, put_in
from fromparts.room.rooms import MAX_WORLDS, is_refusal, refusal

_DOES = "does"
_PARTS = "parts"


def does_for(one, other):
    """Whether the first library builds the types of all parts of the other one."""
    return not lacking(one, other)


def are_alike(one, other):
    """Whether each library does for the other one."""
    return does_for(one, other) and does_for(other, one)


def lacking(one, other):
    """The parts of the other library whose types the first one does not build, ascending."""
    _check_both(one, other)
    return tuple([part for part in other if not builds(one, other[part])])


def _check_both(one, other):
    check_library(one)
    check_library(other)


def parting_goal(one, other):
    """A type that has a program in the other library and none in the first one, or None."""
    lost = lacking(one, other)
    return other[lost[0]] if lost else None


def is_parting(one, other, value):
    """Whether the value is a type that has a program in the other library and none in the first one."""
    _check_both(one, other)
    return isinstance(value, Type) and builds(other, value) and not builds(one, value)


def translation(one, other):
    """Programs in the first library of the types of all parts of the other one."""
    _check_both(one, other)
    for part in other:
        if not builds(one, other[part]):
            raise NoProgram(other[part].text)
    return {part: small_program(one, other[part]) for part in other}


def is_translation(one, other, value):
    """Whether the value is a translation of the other library into the first one."""
    _check_both(one, other)
    return are_puts(other, one, value) and len(value) == len(other)


def translated(one, other, goal, program, told):
    """The program in the first library that comes of one in the other library by a translation."""
    _check_both(one, other)
    check_program(other, goal, program)
    if not is_translation(one, other, told):
        raise InvalidOperation("no translation")
    return put_in(other, goal, program, one, told)


def cores(library):
    """All sets of parts that do for the whole library, and of which none can be left out, ascending."""
    check_library(library)
    # A part that is not surplus is in each core.
    needed = [part for part in library if not builds(library.without(part), library[part])]

    def is_enough(picked):
        names = needed + list(picked)
        return _does_for_all(library, names)

    found = least_sets([part for part in library if part not in needed], is_enough)
    return tuple(sorted([tuple(sorted(needed + list(picked))) for picked in found]))


def _does_for_all(library, names):
    """Whether the parts with these names do for the whole library."""
    kept = library.only(*names)
    return all([part in names or builds(kept, library[part]) for part in library])


def is_core(library, value):
    """Whether the value is an ascending tuple of the parts of a core."""
    check_library(library)
    if not isinstance(value, tuple) or not all([part in library for part in value]):
        return False
    if tuple(sorted(set(value))) != value or not _does_for_all(library, value):
        return False
    kept = library.only(*value)
    return not any([builds(kept.without(part), library[part]) for part in value])


def order_paper(one, other):
    """A translation, or what shows that there is none, whichever there is."""
    lost = lacking(one, other)
    if not lost:
        return _DOES, translation(one, other)
    for part in lost:
        try:
            room = refusal(one, other[part])
        except TooMany:
            continue
        return _PARTS, other[part], own_program(other, part), room
    raise TooMany(MAX_WORLDS)


def is_order_paper(one, other, value):
    """Whether the value shows that the first library does for the other one, or that it does not."""
    _check_both(one, other)
    if not isinstance(value, tuple):
        return False
    if len(value) == 2 and value[0] == _DOES:
        return is_translation(one, other, value[1])
    if len(value) != 4 or value[0] != _PARTS or not isinstance(value[1], Type):
        return False
    return is_program(other, value[1], value[2]) and is_refusal(one, value[1], value[3])
