"""What questions lead to: their choices of heads, and the questions that these ask in turn.

Here `choices` is a dict from questions to tuples of pairs of a choice of heads and its subquestions.
"""

from heapq import heappop, heappush

from fromparts.base.types import Type
from fromparts.base.words import is_word
from fromparts.errors import ParseError, TooMany

MAX_SCOPE = 140


class Texts:
    """Types by their texts, each of which is read once."""

    def __init__(self):
        self._kinds = {}
        self._asks = {}

    def kind(self, text):
        """The type with this text, or None if there is none."""
        if text not in self._kinds:
            self._kinds[text] = _kind_of(text)
        return self._kinds[text]

    def are_scope(self, value):
        """Whether the value is a scope."""
        if not isinstance(value, tuple) or len(value) > MAX_SCOPE:
            return False
        if not all([isinstance(text, str) for text in value]) or not is_ascending(value):
            return False
        return all([self.kind(text) is not None for text in value])

    def are_question(self, value):
        """Whether the value is a question."""
        return isinstance(value, tuple) and len(value) == 2 and self.are_scope(value[0]) and is_word(value[1])

    def choices(self, question):
        """The choices of heads of a question with their subquestions, ascending."""
        scope, atom = question
        heads = [text for text in scope if self.kind(text).atom == atom]
        return tuple([(text, tuple([_question(scope, one) for one in self.asks_of(text)])) for text in heads])

    def wider_scopes(self, scope):
        """The scopes with the types of the arguments of each argument of a type in a scope, too."""
        return [wider_scope(scope, added) for text in scope for added, _ in self.asks_of(text)]

    def asks_of(self, text):
        """For each argument of a type the texts that come into scope, and the atom that is asked."""
        if text not in self._asks:
            self._asks[text] = [([one.text for one in asked.inputs], asked.atom) for asked in self.kind(text).inputs]
        return self._asks[text]


def _question(scope, asked):
    """The question of an argument in a scope."""
    added, atom = asked
    return wider_scope(scope, added), atom


def _kind_of(text):
    try:
        return Type.read(text)
    except ParseError:
        return None


def wider_scope(scope, added):
    """The scope with more texts."""
    if all([text in scope for text in added]):
        return scope
    return tuple(sorted(set(list(scope) + list(added))))


def is_ascending(row):
    """Whether each item is greater than the one ahead of it; they can be compared."""
    return all([one < other for one, other in zip(row, row[1:])])


def first_question(library, goal):
    """The question of a type in a library."""
    return wider_scope(library.scope, [one.text for one in goal.inputs]), goal.atom


def asked_choices(first, limit):
    """The choices of all questions that come up from one, by ascending questions, which are not above a limit."""
    found = choices_within(Texts(), first, limit)
    return {question: found[question] for question in sorted(found)}


def choices_within(table, first, limit):
    """The choices of all questions that come up from one, in any order, which are not above a limit.

    `table` tells the choices of each question.
    """
    found = {}
    due = [first]
    seen = {first}
    while due:
        question = due.pop()
        found[question] = table.choices(question)
        several = asked_by(found[question])
        for asked in several:
            if asked not in seen:
                seen.add(asked)
                due.append(asked)
        if len(seen) > limit:
            raise TooMany(limit)
    return found


def asked_by(choices):
    """All subquestions of the choices of one question."""
    return [asked for _, several in choices for asked in several]


def reached(choices, start):
    """The questions that come up from this one, itself included, ascending."""
    found = {start: True}
    due = [start]
    while due:
        several = asked_by(choices[due.pop()])
        for asked in several:
            if asked not in found:
                found[asked] = True
                due.append(asked)
    return tuple(sorted(found))


def whole_choices(choices, answered):
    """The choices all of whose subquestions are answered, of each question that is answered."""
    return {question: tuple([one for one in choices[question] if all([asked in answered for asked in one[1]])])
            for question in choices if question in answered}


def least_ranks(choices):
    """The answered questions with their least ranks, ascending: rank by rank, all that those below answer."""
    lacking, waiting = _waiting(choices)
    ranks = {}
    rank = 0
    layer = [question for question in choices if any([not several for _, several in choices[question]])]
    while layer:
        rank += 1
        for question in layer:
            ranks[question] = rank
        following = {}
        for question in layer:
            for asker, at in waiting[question]:
                lacking[asker][at] -= 1
                if lacking[asker][at] == 0 and asker not in ranks:
                    following[asker] = True
        layer = list(following)
    return {question: ranks[question] for question in choices if question in ranks}


def least_costs(choices):
    """The answered questions with the least numbers of nodes of their programs, ascending."""
    lacking, waiting = _waiting(choices)
    questions = list(choices)
    numbers = {question: at for at, question in enumerate(questions)}
    costs = {}
    queue = []
    for question in questions:
        if any([not several for _, several in choices[question]]):
            heappush(queue, (1, numbers[question]))
    # The least cost that is left cannot be lowered any more, as each choice costs more than its subquestions.
    while queue:
        cost, number = heappop(queue)
        question = questions[number]
        if question in costs:
            continue
        costs[question] = cost
        for asker, at in waiting[question]:
            lacking[asker][at] -= 1
            if lacking[asker][at] == 0:
                heappush(queue, (cost_of(choices[asker][at], costs), numbers[asker]))
    return {question: costs[question] for question in questions if question in costs}


def cost_of(choice, costs):
    """The least number of nodes of programs with this choice at the root."""
    return 1 + sum([costs[asked] for asked in choice[1]])


def _waiting(choices):
    """How many subquestions each choice has, and for each question the choices that ask it, as often as they do."""
    lacking = {}
    waiting = {question: [] for question in choices}
    for question in choices:
        lacking[question] = [len(several) for _, several in choices[question]]
        for at, (_, several) in enumerate(choices[question]):
            for asked in several:
                waiting[asked].append((question, at))
    return lacking, waiting
