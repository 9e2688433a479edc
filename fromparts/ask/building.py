"""Plans: which head to take for each question, and the programs that come of this."""

from fromparts.ask.asking import Texts, asked_by, cost_of, first_question, least_costs, least_ranks, reached
from fromparts.ask.questions import choices_for, is_below, is_ranks
from fromparts.base.programs import MAX_NODES, Program, check_goal, check_program, head_type, question_in
from fromparts.base.words import VARIABLE
from fromparts.errors import InvalidOperation, NoProgram, TooMany

MAX_PLANS = 500


def is_plan(library, goal, value):
    """Whether the value is a plan for a type."""
    check_goal(library, goal)
    texts = Texts()
    if not isinstance(value, dict) or not all([texts.are_question(question) for question in value]):
        return False
    taken = {question: _taken(texts.choices(question), value[question]) for question in value}
    if first_question(library, goal) not in taken:
        return False
    if not all([asked in taken for question in taken for asked in asked_by(taken[question])]):
        return False
    # A question has a rank exactly if it takes a choice, and going on from it comes to an end.
    return len(least_ranks(taken)) == len(taken)


def _taken(choices, head):
    """The choice with this head alone, if there is one."""
    return tuple([choice for choice in choices if choice[0] == head])


def planned(library, goal, plan):
    """The program of a plan."""
    if not is_plan(library, goal, plan):
        raise InvalidOperation("no plan of this type")
    return Program(grown_nodes(library, goal, (), plan, ())[0])


def grown_nodes(library, goal, bound, plan, spine):
    """The nodes of a program by a plan, with variables of these types bound above, and the places on the spine.

    The spine is a row of pairs (head, index) of choices ahead of those of the plan: that of the root, that of its
    argument with this index, and so on. The node behind the last pair takes the choice of the plan.
    """
    nodes = []
    places = []
    due = [(goal, bound, 0)]
    while due:
        if len(nodes) == MAX_NODES:
            raise TooMany(MAX_NODES)
        wanted, above, step = due.pop()
        scope = above + wanted.inputs
        on_way = step is not None and step < len(spine)
        text = spine[step][0] if on_way else plan[question_in(library, scope, wanted.atom)]
        if step is not None:
            places.append(len(nodes))
        head = _least_head(library, scope, text)
        asked = head_type(library, scope, head).inputs
        nodes.append((len(wanted.inputs), head, len(asked)))
        steps = [step + 1 if on_way and at == spine[step][1] else None for at in range(len(asked))]
        due.extend([(asked[at], scope, steps[at]) for at in range(len(asked) - 1, -1, -1)])
    return tuple(nodes), tuple(places)


def _least_head(library, scope, text):
    """The least part with the type of this text, or else the variable with the least level."""
    parts = [name for name in library.names if library[name].text == text]
    variables = [f"{VARIABLE}{level}" for level, wanted in enumerate(scope) if wanted.text == text]
    return (parts + variables)[0]


def plan_by(library, goal, ranks):
    """The plan that takes for each question the least choice whose subquestions have lesser ranks."""
    if not is_ranks(library, goal, ranks):
        raise InvalidOperation("no ranks of this type")
    texts = Texts()
    plan = {}
    for question in sorted(ranks):
        choices = texts.choices(question)
        plan[question] = [head for head, asked in choices if is_below(asked, ranks[question], ranks)][0]
    return plan


def least_sizes(library, goal):
    """The answered questions with their least sizes."""
    return least_costs(choices_for(library, goal))


def least_size(library, goal):
    """The least size of a program of the type."""
    return _built_costs(choices_for(library, goal), library, goal)[first_question(library, goal)]


def _built_costs(choices, library, goal):
    """The least sizes, if the type has a program."""
    costs = least_costs(choices)
    if first_question(library, goal) not in costs:
        raise NoProgram(goal.text)
    return costs


def least_plan(library, goal):
    """The plan of the least choices by size, and then by text."""
    choices = choices_for(library, goal)
    plan = plan_of_least(choices, _built_costs(choices, library, goal))
    taken = {question: _taken(choices[question], plan[question]) for question in plan}
    return {question: plan[question] for question in reached(taken, first_question(library, goal))}


def plan_of_least(choices, costs):
    """For each answered question the choice with the least size, and among those the least text."""
    return {question: _least_choice(choices[question], costs)[0] for question in costs}


def _least_choice(choices, costs):
    sizes = [(cost_of(choice, costs), choice) for choice in choices if all([asked in costs for asked in choice[1]])]
    return min(sizes)[1]


def shortest(library, goal):
    """A program of the least size."""
    return Program(grown_nodes(library, goal, (), least_plan(library, goal), ())[0])


def plans(library, goal):
    """All plans that have no question to which they do not come, in order."""
    choices = choices_for(library, goal)
    _built_costs(choices, library, goal)
    found = _closed_rows(_endless_choices(choices), first_question(library, goal))
    for row in sorted(found):
        taken = {question: _taken(choices[question], head) for question, head in row}
        if len(least_ranks(taken)) == len(taken):
            yield {question: head for question, head in row}


def _endless_choices(choices):
    """The choices that can be gone on from without an end, whether questions come back or not."""
    left = choices
    fewer = _with_all_left(left)
    while len(fewer) < len(left):
        left = fewer
        fewer = _with_all_left(left)
    return fewer


def _with_all_left(choices):
    """The choices all of whose subquestions have choices, for the questions that have such."""
    kept = {question: tuple([one for one in choices[question] if all([asked in choices for asked in one[1]])])
            for question in choices}
    return {question: kept[question] for question in kept if kept[question]}


def _closed_rows(choices, first):
    """The ascending pairs (question, head) of all dicts that have the first question, what they ask, and no more."""
    found = []
    due = [({}, (first,))]
    while due:
        taken, open_ones = due.pop()
        if not open_ones:
            found.append(tuple(sorted(taken.items())))
        else:
            question = open_ones[0]
            for head, asked in choices[question]:
                more = {**taken, question: head}
                new = [one for one in asked if one not in more and one not in open_ones]
                due.append((more, open_ones[1:] + tuple(sorted(set(new)))))
        # Each of them that is begun can be finished, and so becomes a plan that counts.
        if len(found) + len(due) > MAX_PLANS:
            raise TooMany(MAX_PLANS)
    return found


def plan_of(library, goal, program):
    """The choices that a program takes for its questions, or None if it takes two for one question."""
    taken = {}
    told = check_program(library, goal, program)
    for node, (wanted, scope) in zip(program.nodes, told):
        question = question_in(library, scope, wanted.atom)
        text = head_type(library, scope, node[1]).text
        # A question that comes back below itself takes two choices, as the program would not end otherwise.
        if taken.get(question, text) != text:
            return None
        taken[question] = text
    return {question: taken[question] for question in sorted(taken)}
