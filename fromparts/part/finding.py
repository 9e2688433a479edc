"""Programs of at most forty nodes, and least sets of what is enough."""

from fromparts.ask.asking import cost_of, first_question
from fromparts.ask.building import grown_nodes, plan_of_least, shortest
from fromparts.ask.questions import choices_for
from fromparts.base.programs import MAX_NODES, Program
from fromparts.count.listing import program_at
from fromparts.count.loops import nearest
from fromparts.count.totals import usable_choices
from fromparts.errors import InvalidProgram, NoProgram, TooMany


def small_program(library, goal):
    """A program of a type that has some, with at most forty nodes."""
    try:
        return shortest(library, goal)
    except InvalidProgram:
        # It binds too many variables on a way; a longer one can bind less of them.
        return _first_program(library, goal)


def _first_program(library, goal):
    try:
        return program_at(library, goal, 0)
    except (NoProgram, TooMany):
        raise TooMany(MAX_NODES) from None


def small_program_with(library, goal, part):
    """A program with a part that some programs of the goal have, with at most forty nodes."""
    choices = choices_for(library, goal)
    first = first_question(library, goal)
    whole, usable, costs = usable_choices(choices, first)
    plan = plan_of_least(whole, costs)
    text = library[part].text
    ways = nearest(whole, costs, [(0, first, ())])
    found = [(ways[question][0] + cost_of(choice, costs), ways[question][1])
             for question in usable if question in ways for choice in whole[question] if choice[0] == text]
    for cost, way in sorted(found):
        if cost > MAX_NODES:
            break
        # The last place of the spine takes the type of the part, and none of its arguments is on the spine.
        nodes, places = grown_nodes(library, goal, (), plan, way + ((text, -1),))
        binders, _, many = nodes[places[-1]]
        try:
            return Program(nodes[:places[-1]] + ((binders, part, many),) + nodes[places[-1] + 1:])
        except InvalidProgram:
            continue
    raise TooMany(MAX_NODES)


def least_sets(names, is_enough):
    """The ascending tuple of the rows of some names that are enough, and of which none can be left out.

    The names ascend, and whatever has all names of what is enough is enough, too.
    """
    found = []
    for picked in _rows_of(names):
        is_wider = any([all([name in picked for name in row]) for row in found])
        if not is_wider and is_enough(picked):
            found.append(picked)
    return tuple(sorted(found))


def _rows_of(names):
    """All rows of some of the names, each behind the rows of some of its own names."""
    rows = [()]
    for name in names:
        rows = rows + [row + (name,) for row in rows]
    return rows
