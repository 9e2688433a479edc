"""Questions of many libraries, asked one after another.

Here a scope is an integer with a bit for each type in it, and a question a pair of such a scope and an atom: it is
widened, compared and looked up faster than by the texts of its types.
"""

from fromparts.ask.asking import choices_within, least_ranks
from fromparts.ask.questions import MAX_QUESTIONS
from fromparts.base.types import Type
from fromparts.errors import ParseError

# What is kept is given up beyond these, as else it could grow without end.
MAX_KINDS = 400
MAX_ANSWERS = 4000


class Scopes:
    """Types by bits, and what has been found out about questions."""

    def __init__(self):
        self._forget()

    def _forget(self):
        self._by_text = {}
        self._marks = {}
        self._told = {}
        self._asks = {}
        self._heads = {}
        self._answers = {}

    def tidy(self):
        """Gives up what is kept if it is much; scopes and questions from before then mean nothing."""
        if len(self._by_text) > MAX_KINDS:
            self._forget()

    def kind(self, text):
        """The type with a text, or None if this is the text of none."""
        if not isinstance(text, str):
            return None
        if text not in self._by_text:
            try:
                self._by_text[text] = Type.read(text)
            except ParseError:
                return None
        return self._by_text[text]

    def scope_of(self, kinds):
        """The scope with these types."""
        scope = 0
        for kind in kinds:
            scope = scope | self._bit_of(kind)
        return scope

    def _bit_of(self, kind):
        text = kind.text
        if text not in self._marks:
            added = tuple([(self.scope_of(one.inputs), one.atom) for one in kind.inputs])
            bit = 1 << len(self._marks)
            self._by_text[text] = kind
            self._marks[text] = bit
            self._told[bit] = (text, added)
            self._asks[text] = [([inner.text for inner in one.inputs], one.atom) for one in kind.inputs]
            self._heads[kind.atom] = self._heads.get(kind.atom, 0) | bit
        return self._marks[text]

    def asks_of(self, text):
        """For each argument of a type with a bit the texts that come into scope, and the atom that is asked."""
        return self._asks[text]

    def question(self, kinds, goal):
        """The question of a goal with parts of these types."""
        return self.scope_of(kinds) | self.scope_of(goal.inputs), goal.atom

    def choices(self, question):
        """The choices of heads of a question with their subquestions."""
        scope, atom = question
        left = scope & self._heads.get(atom, 0)
        found = []
        while left:
            bit = left & -left
            left = left - bit
            text, several = self._told[bit]
            found.append((text, tuple([(scope | added, asked) for added, asked in several])))
        return tuple(found)

    def choices_from(self, question):
        """The choices of all questions that come up from one."""
        return choices_within(self, question, MAX_QUESTIONS)

    def is_answered(self, question):
        """Whether a question is answered."""
        if question not in self._answers:
            choices = self.choices_from(question)
            ranks = least_ranks(choices)
            if len(self._answers) > MAX_ANSWERS:
                self._answers = {}
            # What comes up from the question asks no more than this, so it needs not be asked again.
            for one in choices:
                self._answers[one] = one in ranks
        return self._answers[question]
