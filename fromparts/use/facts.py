"""What holds in libraries, each fact of which is worked out once."""

from fromparts.ask.asking import least_ranks, reached, whole_choices
from fromparts.ask.scopes import Scopes
from fromparts.count.counts import let_number
from fromparts.count.totals import number_from
from fromparts.errors import TooMany
from fromparts.use.sayings import BUILDS, COUNT, EVERY, NONE, SOME, USE, USEFUL, with_name

# What is kept is given up beyond these, as else it could grow without end.
MAX_FACTS = 500
MAX_TOLD = 500


class Facts:
    """A library with what has been found out about it."""

    def __init__(self, stock, scopes):
        self.stock = stock
        self._kinds = stock.parts
        self._scopes = scopes
        # For each saying whether it holds, and the limit that asking this is above, if it is above one.
        self._told = {}
        # The same of the surplus parts.
        self._spare = None

    def holds(self, saying):
        """Whether a saying about parts of the library holds."""
        if saying not in self._told:
            if len(self._told) >= MAX_TOLD:
                self._told = {}
            self._told[saying] = self._find(saying)
        found, limit = self._told[saying]
        if limit is not None:
            raise TooMany(limit)
        return found

    def surplus(self):
        """The parts whose types the others build, ascending."""
        if self._spare is None:
            self._spare = self._find_spare()
        found, limit = self._spare
        if limit is not None:
            raise TooMany(limit)
        return found

    def with_new_name(self, stock, part, name):
        """The facts of a library in which a part has another name, which are the same ones about this name."""
        told = {with_name(saying, part, name): self._told[saying] for saying in list(self._told)}
        made = Facts(stock, self._scopes)
        made._told = told
        if self._spare is not None:
            found, limit = self._spare
            made._spare = (tuple(sorted([name if one == part else one for one in found])), limit)
        return made

    def _find(self, saying):
        self._scopes.tidy()
        try:
            return self._asked(saying), None
        except TooMany as error:
            return False, error.limit

    def _find_spare(self):
        self._scopes.tidy()
        try:
            return tuple([part for part in self._kinds if self._is_spare(part)]), None
        except TooMany as error:
            return (), error.limit

    def _is_spare(self, part):
        return self._builds_without(part, self._kinds[part])

    def _builds_without(self, part, goal):
        """Whether the other parts build a type."""
        others = [self._kinds[one] for one in self._kinds if one != part]
        return self._scopes.is_answered(self._scopes.question(others, goal))

    def _asked(self, saying):
        """Whether a saying holds, as is asked anew."""
        if saying[0] == USEFUL:
            return not self._is_spare(saying[1])
        goal = self._scopes.kind(saying[1])
        if saying[0] == COUNT:
            return self._number_of(goal) == saying[2]
        first = self._scopes.question(list(self._kinds.values()), goal)
        if saying[0] == USE:
            return self._scopes.is_answered(first) and self._use_of(goal, first, saying[2]) == saying[3]
        return self._scopes.is_answered(first) == (saying[0] == BUILDS)

    def _number_of(self, goal):
        """The number of programs of a type, or None if they are endless."""
        heads = list(self._kinds.values()) + list(goal.inputs)
        first = self._scopes.scope_of(heads), goal.atom
        texts = [one.text for one in heads]
        return let_number(number_from(self._scopes, self._scopes.choices_from(first), first, texts))

    def _use_of(self, goal, first, part):
        """The use of a part for a type with programs, the question of which comes first."""
        if not self._builds_without(part, goal):
            return EVERY
        choices = self._scopes.choices_from(first)
        whole = whole_choices(choices, least_ranks(choices))
        text = self._kinds[part].text
        # Of parts with the same type each one can stand where another one does.
        heads = [head for question in reached(whole, first) for head, _ in whole[question]]
        return SOME if text in heads else NONE


class Memory:
    """The facts of libraries that come up again and again."""

    def __init__(self):
        self._scopes = Scopes()
        self._facts = {}

    def kind(self, text):
        """The type with a text, or None if this is the text of none."""
        self._scopes.tidy()
        return self._scopes.kind(text)

    def facts_of(self, stock):
        """The facts of a library."""
        if stock.lines not in self._facts:
            return self._kept(Facts(stock, self._scopes))
        return self._facts[stock.lines]

    def facts_with_name(self, facts, stock, part, name):
        """The facts of a library that is one with known facts, but for the name of a part."""
        if stock.lines not in self._facts:
            return self._kept(facts.with_new_name(stock, part, name))
        return self._facts[stock.lines]

    def _kept(self, facts):
        if len(self._facts) >= MAX_FACTS:
            self._facts = {}
        self._facts[facts.stock.lines] = facts
        return facts
