"""How many programs there are: endlessly many, or a number, also by sizes."""

from fromparts.ask.asking import Texts, asked_by, first_question
from fromparts.ask.building import grown_nodes, plan_of_least
from fromparts.ask.questions import Questions, choices_for
from fromparts.base.nodes import level_of
from fromparts.base.programs import MAX_NODES, Program, check_goal, is_program, question_at
from fromparts.base.words import VARIABLE, is_integer, is_variable
from fromparts.count.loops import loop_free_ranks, short_loops
from fromparts.count.tally import Tally
from fromparts.count.totals import TOO_LONG, number_from, usable_choices
from fromparts.errors import InvalidNumber, InvalidOperation, InvalidProgram, TooMany

MAX_DIGITS = 60
MAX_TIMES = 10

_LOOP = "loop"
_RANKS = "ranks"


def usable_questions(library, goal):
    """The questions that come up in programs of the goal, ascending."""
    return Questions(library, goal).usable()


def count(library, goal):
    """The number of programs of the goal, or None if there are endlessly many."""
    choices = choices_for(library, goal)
    scope = [part.text for part in list(library.parts.values()) + list(goal.inputs)]
    return let_number(number_from(Texts(), choices, first_question(library, goal), scope))


def let_number(number):
    """The number itself, or None, if it has not too many digits."""
    if number is not None and number >= TOO_LONG:
        raise TooMany(MAX_DIGITS)
    return number


def count_paper(library, goal):
    """A loop, or ranks that no loop lets, whichever there is."""
    choices = choices_for(library, goal)
    first = first_question(library, goal)
    whole, usable, costs = usable_choices(choices, first)
    ranks = loop_free_ranks(whole, usable)
    if len(ranks) == len(usable):
        return _RANKS, ranks
    plan = plan_of_least(whole, costs)
    for _, _, way, back in short_loops(whole, usable, costs, first):
        nodes, places = grown_nodes(library, goal, (), plan, way + back)
        try:
            return _LOOP, (Program(nodes), places[len(way)], places[-1])
        except InvalidProgram:
            # Too many variables are bound on a way; a longer program can have less of them.
            continue
    raise TooMany(MAX_NODES)


def is_count_paper(library, goal, value):
    """Whether the value shows that there are endlessly many programs, or that there are not."""
    choices = choices_for(library, goal)
    whole, usable, _ = usable_choices(choices, first_question(library, goal))
    if not isinstance(value, tuple) or len(value) != 2:
        return False
    if value[0] == _LOOP:
        return _is_loop(library, goal, value[1])
    return value[0] == _RANKS and _are_ranks(whole, usable, value[1])


def _are_ranks(whole, usable, value):
    """Whether each usable question has a rank, and a greater one than all that its whole choices ask."""
    if not isinstance(value, dict) or len(value) != len(usable):
        return False
    if not all([question in value and is_integer(value[question]) and value[question] >= 1 for question in usable]):
        return False
    return all([value[asked] < value[question] for question in usable for asked in asked_by(whole[question])])


def _is_loop(library, goal, value):
    if not isinstance(value, tuple) or len(value) != 3:
        return False
    program, outer, inner = value
    if not is_program(library, goal, program) or not is_integer(outer) or not is_integer(inner):
        return False
    if not 0 <= outer < inner < program.size or outer not in program.way_to(inner):
        return False
    return question_at(library, goal, program, outer) == question_at(library, goal, program, inner)


def count_of(library, goal, size):
    """The number of the programs of this size."""
    check_size(library, goal, size)
    return number_of_size(Tally(library, goal), size)


def counts_upto(library, goal, size):
    """The numbers of the programs of the sizes from 0 to this one."""
    check_size(library, goal, size)
    return tallied(library, goal, size)[1]


def check_size(library, goal, size):
    """Refuses what is no library, no type, or no size."""
    check_goal(library, goal)
    if not is_integer(size) or not 0 <= size <= MAX_NODES:
        raise InvalidNumber(size)


def tallied(library, goal, size):
    """A tally, and by it the numbers of the programs of the sizes from 0 to this one."""
    tally = Tally(library, goal)
    tally.allow(size)
    return tally, tuple([number_of_size(tally, one) for one in range(size + 1)])


def number_of_size(tally, size):
    """The number of the programs of this size by a tally, if it has not too many digits."""
    return let_number(tally.number_with(size))


def pumped(library, goal, loop, times):
    """The program in which what stands at the outer place of a loop stands at the inner one, so many times."""
    check_goal(library, goal)
    if not _is_loop(library, goal, loop):
        raise InvalidOperation("no loop of this goal")
    if not is_integer(times) or not 0 <= times <= MAX_TIMES:
        raise InvalidNumber(times)
    program, outer, inner = loop
    nodes = program.nodes
    end_of_outer, end_of_inner = program.end(outer), program.end(inner)
    if len(nodes) + times * (end_of_outer - outer - (end_of_inner - inner)) > MAX_NODES:
        raise TooMany(MAX_NODES)
    # Variables that are bound ahead of what stands at the outer place stay, all others get greater levels.
    ahead = program.bound(outer) + nodes[outer][0]
    more = program.bound(inner) + nodes[inner][0] - ahead
    within = nodes[inner:end_of_inner]
    for _ in range(times):
        below = nodes[outer + 1:inner] + within + nodes[end_of_inner:end_of_outer]
        within = ((nodes[inner][0],) + nodes[outer][1:],) + _moved(below, ahead, more)
    return Program(nodes[:inner] + within + nodes[end_of_inner:])


def _moved(nodes, ahead, more):
    """The nodes with greater levels of the variables that are not bound ahead."""
    return tuple([(binders, _moved_head(head, ahead, more), many) for binders, head, many in nodes])


def _moved_head(head, ahead, more):
    if is_variable(head) and level_of(head) >= ahead:
        return f"{VARIABLE}{level_of(head) + more}"
    return head
