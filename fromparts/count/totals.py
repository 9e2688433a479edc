"""How many programs there are for a question: endlessly many, or a number."""

from fromparts.ask.asking import asked_by, least_costs, reached, whole_choices
from fromparts.count.loops import loop_free_ranks

# The least number with more than sixty digits.
TOO_LONG = 10 ** 60


def usable_choices(choices, first):
    """The whole choices of the answered questions, the usable questions, and the least sizes."""
    costs = least_costs(choices)
    whole = whole_choices(choices, costs)
    usable = reached(whole, first) if first in whole else ()
    return whole, usable, costs


def number_from(table, choices, first, scope):
    """The number of programs for a question with heads of the types with these texts, or None if it is endless.

    It is `TOO_LONG` if it has too many digits. `table` tells what the arguments of a type ask.
    """
    whole, usable, _ = usable_choices(choices, first)
    if not usable:
        return 0
    ranks = loop_free_ranks(whole, usable)
    if len(ranks) < len(usable):
        return None
    return _number_of(table, first, scope, whole, ranks)


def _number_of(table, first, scope, whole, ranks):
    """The number of programs where questions do not come back."""
    told = _texts_that_count(whole, ranks)
    start = (first, tuple([scope.count(text) for text in told[first]]))
    states = _states_from(start, whole, told, table)
    numbers = {}
    # What a question asks has a lesser rank, so its number is known by then.
    for _, state in sorted([(ranks[state[0]], state) for state in states]):
        numbers[state] = min(TOO_LONG, sum([_product(often, asked, numbers) for often, asked in states[state]]))
    return numbers[start]


def _texts_that_count(whole, ranks):
    """For each question the ascending texts of the choices that it, or a question that comes up from it, has."""
    told = {}
    for _, question in sorted([(ranks[question], question) for question in ranks]):
        own = [text for text, _ in whole[question]]
        below = [text for asked in asked_by(whole[question]) for text in told[asked]]
        told[question] = tuple(sorted(set(own + below)))
    return told


def _states_from(start, whole, told, table):
    """What comes up from a question with numbers of heads: for each choice how many heads, and what these ask."""
    states = {}
    due = [start]
    while due:
        state = due.pop()
        if state not in states:
            states[state] = [_asked_with(state, choice, told, table) for choice in whole[state[0]]]
            due.extend([one for _, asked in states[state] for one in asked])
    return states


def _asked_with(state, choice, told, table):
    """How many heads of a choice there are, and its subquestions with the numbers of heads there."""
    question, often = state
    text, asked = choice
    many = {told[question][at]: number for at, number in enumerate(often)}
    added = [several for several, _ in table.asks_of(text)]
    inner = [(one, tuple([many[word] + added[at].count(word) for word in told[one]])) for at, one in enumerate(asked)]
    return many[text], inner


def _product(often, asked, numbers):
    number = often
    for state in asked:
        number = min(TOO_LONG, number * numbers[state])
    return number
