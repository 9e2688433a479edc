"""Uses of parts: which programs have them, and which parts and wishes are enough for a type."""

from fromparts.ask.asking import Texts, first_question, is_ascending, wider_scope
from fromparts.ask.questions import Questions, are_barred, builds, built_paper, is_answered, is_barred
from fromparts.base.libraries import Library
from fromparts.base.programs import check_goal, is_program
from fromparts.base.types import Type
from fromparts.base.words import is_integer
from fromparts.errors import InvalidLibrary, InvalidNumber, InvalidOperation, NoProgram, UnknownWord
from fromparts.part.finding import least_sets, small_program, small_program_with

MAX_MENU = 6

_EVERY = "every"
_SOME = "some"
_NONE = "none"


def use_of(library, goal, part):
    """Whether every program of a type has a part, some have it, or none has it."""
    _check_part(library, goal, part)
    return _use_in(_built_questions(library, goal), part)


def uses(library, goal):
    """The uses of all parts for a type."""
    check_goal(library, goal)
    asked = _built_questions(library, goal)
    return {part: _use_in(asked, part) for part in library}


def _check_part(library, goal, part):
    check_goal(library, goal)
    if part not in library:
        raise UnknownWord(part)


def _built_questions(library, goal):
    """The questions of a type, if it has a program."""
    asked = Questions(library, goal)
    if not asked.is_built:
        raise NoProgram(goal.text)
    return asked


def _use_in(asked, part):
    """The use of a part by the questions of a type with programs."""
    if not builds(asked.library.without(part), asked.goal):
        return _EVERY
    text = asked.library[part].text
    # Of parts with the same type each one can stand where another one does.
    if any([text in asked.whole(question) for question in asked.usable()]):
        return _SOME
    return _NONE


def use_paper(library, goal, part):
    """What shows the use of a part: programs, and questions that bar others."""
    _check_part(library, goal, part)
    asked = _built_questions(library, goal)
    use = _use_in(asked, part)
    if use == _EVERY:
        return use, small_program(library, goal), built_paper(library.without(part), goal)[1]
    if use == _SOME:
        return use, small_program_with(library, goal, part), small_program(library.without(part), goal)
    answered = {question: True for question in asked.answered}
    barred = tuple([question for question in asked.asks if question not in answered])
    return use, small_program(library, goal), asked.usable(), barred


def is_use_paper(library, goal, part, value):
    """Whether the value shows the use of a part."""
    _check_part(library, goal, part)
    if not isinstance(value, tuple) or len(value) < 3 or not is_program(library, goal, value[1]):
        return False
    if value[0] == _EVERY:
        return len(value) == 3 and is_barred(library.without(part), goal, value[2])
    if value[0] == _SOME:
        return len(value) == 3 and part in value[1] and is_program(library.without(part), goal, value[2])
    if value[0] != _NONE or len(value) != 4:
        return False
    return _is_reach(library, goal, part, value[2], value[3])


def _is_reach(library, goal, part, reach, barred):
    """Whether these questions show that no program has a part."""
    texts = Texts()
    if not _are_questions(texts, reach) or not are_barred(texts, barred):
        return False
    within = {question: True for question in reach}
    without = {question: True for question in barred}
    if first_question(library, goal) not in within:
        return False
    text = library[part].text
    choices = [choice for question in reach for choice in texts.choices(question)]
    return all([_is_barred_by(asked, without) or (head != text and all([question in within for question in asked]))
                for head, asked in choices])


def _are_questions(texts, value):
    """Whether the value is an ascending tuple of questions."""
    return isinstance(value, tuple) and all([texts.are_question(one) for one in value]) and is_ascending(value)


def _is_barred_by(asked, without):
    return any([question in without for question in asked])


def surplus_parts(library):
    """The parts whose types the others build, ascending."""
    _check_library(library)
    return tuple([part for part in library if _is_surplus(library, part)])


def _check_library(library):
    if not isinstance(library, Library):
        raise InvalidLibrary("no library")


def _is_surplus(library, part):
    return builds(library.without(part), library[part])


def lean(library):
    """The library that is left when surplus parts are taken away one after another, the greatest one first."""
    _check_library(library)
    left = library
    # With fewer parts no more types are built, so what was not surplus does not become so.
    for part in library.names[::-1]:
        if _is_surplus(left, part):
            left = left.without(part)
    return left


def least_parts(library, goal):
    """All sets of parts with which alone a type has a program, and of which none can be left out."""
    if not builds(library, goal):
        return ()
    needed = [part for part in library if not builds(library.without(part), goal)]

    def is_enough(picked):
        names = needed + list(picked)
        return builds(library.only(*names), goal)

    found = least_sets([part for part in library if part not in needed], is_enough)
    return tuple(sorted([tuple(sorted(needed + list(picked))) for picked in found]))


def least_wishes(library, goal, menu):
    """All sets of indices of types of a menu with which a type has a program, and of which none can be left out."""
    _check_menu(library, goal, menu)

    def is_enough(picked):
        return _builds_with(library, goal, [menu[index] for index in picked])

    return least_sets(list(range(len(menu))), is_enough)


def _check_menu(library, goal, menu):
    check_goal(library, goal)
    if not isinstance(menu, tuple) or len(menu) > MAX_MENU or not all([isinstance(one, Type) for one in menu]):
        raise InvalidOperation("no tuple of at most six types")


def _builds_with(library, goal, wishes):
    """Whether a type has a program with parts of more types beside those of the library."""
    scope, atom = first_question(library, goal)
    return is_answered((wider_scope(scope, [one.text for one in wishes]), atom))


def is_needed_wish(library, goal, menu, index):
    """Whether a type has a program with all types of a menu, but none without this one."""
    _check_menu(library, goal, menu)
    if not is_integer(index) or not 0 <= index < len(menu):
        raise InvalidNumber(index)
    others = menu[:index] + menu[index + 1:]
    return _builds_with(library, goal, menu) and not _builds_with(library, goal, others)
