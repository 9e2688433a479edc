"""Questions: which types have programs, and what shows it."""

from fromparts.ask.asking import (Texts, asked_choices, first_question, is_ascending, least_ranks, reached,
                                  whole_choices)
from fromparts.base.programs import check_goal
from fromparts.base.words import is_integer
from fromparts.errors import InvalidQuestion, UnknownWord

MAX_QUESTIONS = 2000

_RANKS = "ranks"
_BARRED = "barred"


class Questions:
    """The questions that are asked for a type in a library."""

    def __init__(self, library, goal):
        self._choices = choices_for(library, goal)
        self._library = library
        self._goal = goal
        self._first = first_question(library, goal)
        self._asks = tuple(self._choices)
        self._ranks = least_ranks(self._choices)
        self._whole = whole_choices(self._choices, self._ranks)

    @property
    def library(self):
        return self._library

    @property
    def goal(self):
        return self._goal

    @property
    def first(self):
        return self._first

    @property
    def asks(self):
        return self._asks

    @property
    def answered(self):
        return tuple(self._ranks)

    @property
    def is_built(self):
        return self._first in self._ranks

    @property
    def ranks(self):
        """The answered questions with their least ranks."""
        return {question: self._ranks[question] for question in self._ranks}

    def usable(self):
        """The questions that come up in programs of the type, ascending."""
        if self._first not in self._ranks:
            return ()
        return reached(self._whole, self._first)

    def whole(self, question):
        """The choices of a question all of whose subquestions are answered, ascending."""
        self._check_asked(question)
        return tuple([head for head, _ in self._whole.get(question, ())])

    def barring(self, question):
        """The choices of a question some subquestion of which is not answered, ascending."""
        whole = self.whole(question)
        return tuple([head for head, _ in self._choices[question] if head not in whole])

    def after(self, question):
        """The questions that come up from one, itself included, ascending."""
        self._check_asked(question)
        return reached(self._choices, question)

    def _check_asked(self, question):
        if question not in self:
            raise InvalidQuestion("not asked")

    def __contains__(self, x):
        # What is no pair of strings and a string can be a value that cannot be looked up in a dict.
        if not isinstance(x, tuple) or len(x) != 2 or not isinstance(x[0], tuple) or not isinstance(x[1], str):
            return False
        return all([isinstance(text, str) for text in x[0]]) and x in self._choices

    def __len__(self):
        return len(self._asks)

    def __iter__(self):
        return iter(self._asks)

    def __eq__(self, other):
        return isinstance(other, Questions) and self._library == other._library and self._goal == other._goal

    def __str__(self):
        end = "built" if self._first in self._ranks else "barred"
        return f"{len(self._asks)} asked, {len(self._ranks)} answered, {end}"


def is_scope(value):
    """Whether the value is an ascending tuple of at most 140 texts of types."""
    return Texts().are_scope(value)


def is_question(value):
    """Whether the value is a pair of a scope and an atom."""
    return Texts().are_question(value)


def question_of(library, goal):
    """The question of a type in a library."""
    check_goal(library, goal)
    return first_question(library, goal)


def heads_of(question):
    """The choices of heads of a question, ascending."""
    return tuple([head for head, _ in _choices_of(question)])


def subquestions(question, head):
    """The subquestions of a choice of heads of a question, by its arguments."""
    for found, asked in _choices_of(question):
        if found == head:
            return asked
    raise UnknownWord(head)


def _choices_of(question):
    texts = Texts()
    if not texts.are_question(question):
        raise InvalidQuestion("no pair of a scope and an atom")
    return texts.choices(question)


def choices_for(library, goal):
    """The choices of all questions that are asked for a type, with their subquestions."""
    check_goal(library, goal)
    return choices_from(first_question(library, goal))


def choices_from(question):
    """The choices of all questions that come up from one, with their subquestions."""
    return asked_choices(question, MAX_QUESTIONS)


def builds(library, goal):
    """Whether the type has a program in the library."""
    check_goal(library, goal)
    return is_answered(first_question(library, goal))


def is_answered(question):
    """Whether a question is answered."""
    return question in least_ranks(choices_from(question))


def is_ranks(library, goal, value):
    """Whether the value is ranks for a type."""
    check_goal(library, goal)
    texts = Texts()
    if not isinstance(value, dict) or not all([texts.are_question(question) for question in value]):
        return False
    if not all([is_integer(value[question]) and value[question] >= 1 for question in value]):
        return False
    if first_question(library, goal) not in value:
        return False
    return all([_is_ranked(texts.choices(question), value[question], value) for question in value])


def _is_ranked(choices, rank, ranks):
    """Whether some choice has subquestions of lesser ranks only."""
    return any([is_below(asked, rank, ranks) for _, asked in choices])


def is_below(asked, rank, ranks):
    """Whether all that is asked has lesser ranks."""
    return all([question in ranks and ranks[question] < rank for question in asked])


def is_barred(library, goal, value):
    """Whether the value is an ascending tuple of questions that is barred, and has the question of the type."""
    check_goal(library, goal)
    return are_barred(Texts(), value) and first_question(library, goal) in value


def are_barred(texts, value):
    """Whether the value is an ascending tuple of questions that is barred."""
    if not isinstance(value, tuple) or not all([texts.are_question(question) for question in value]):
        return False
    bars = {question: True for question in value}
    return is_ascending(value) and all([_is_closed(texts.choices(question), bars) for question in value])


def _is_closed(choices, bars):
    """Whether each choice has a subquestion that is barred."""
    return all([any([question in bars for question in asked]) for _, asked in choices])


def built_paper(library, goal):
    """Ranks, or a barred tuple, whichever there is for a type."""
    choices = choices_for(library, goal)
    ranks = least_ranks(choices)
    if first_question(library, goal) in ranks:
        return _RANKS, ranks
    return _BARRED, tuple([question for question in choices if question not in ranks])


def is_built_paper(library, goal, value):
    """Whether the value is a pair that shows that the type has a program, or that it has none."""
    check_goal(library, goal)
    if not isinstance(value, tuple) or len(value) != 2:
        return False
    if value[0] == _RANKS:
        return is_ranks(library, goal, value[1])
    return value[0] == _BARRED and is_barred(library, goal, value[1])
