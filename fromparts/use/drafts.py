"""Drafts: programs of which some nodes are still gaps."""

from fromparts.ask.asking import Texts, least_costs, least_ranks
from fromparts.ask.building import grown_nodes, plan_of_least
from fromparts.ask.questions import choices_from, is_answered
from fromparts.base.nodes import are_nodes, end_of, gaps_of, nodes_with_text, text_of_nodes
from fromparts.base.programs import MAX_NODES, Program, check_goal, check_program, head_type, question_in, typed_nodes
from fromparts.base.words import GAP, VARIABLE, is_integer
from fromparts.count.counts import MAX_DIGITS
from fromparts.count.totals import TOO_LONG, number_from
from fromparts.errors import InvalidDraft, InvalidNumber, InvalidOperation, NoProgram, TooMany, UnknownWord
from fromparts.use.matching import are_within, common_nodes, wider_nodes

MAX_GAPS = 20


class Draft:
    """A program of a goal over a library, with gaps in the place of some nodes."""

    def __init__(self, library, goal, nodes=None):
        check_goal(library, goal)
        given = (_gap_of(goal),) if nodes is None else nodes
        if not are_nodes(given, 0) or len(given) > MAX_NODES or len(gaps_of(given)) > MAX_GAPS:
            raise InvalidDraft("no nodes of a draft")
        told = typed_nodes(library, goal, given)
        if told is None:
            raise InvalidDraft("no nodes of a draft of this type")
        self._library = library
        self._goal = goal
        self._nodes = given
        self._told = told
        self._gaps = gaps_of(given)
        self._text = text_of_nodes(given)

    @classmethod
    def read(cls, library, goal, text):
        """The draft with this text."""
        check_goal(library, goal)
        return cls(library, goal, nodes_with_text(text))

    @property
    def library(self):
        return self._library

    @property
    def goal(self):
        return self._goal

    @property
    def nodes(self):
        return self._nodes

    @property
    def text(self):
        return self._text

    @property
    def gaps(self):
        """The places of the gaps, ascending."""
        return self._gaps

    @property
    def is_whole(self):
        """Whether there are no gaps."""
        return not self._gaps

    def can_finish(self):
        """Whether some program is of the draft."""
        answered = [is_answered(self._question_at(place)) for place in self._gaps]
        return all(answered)

    def ways_to_finish(self):
        """The number of the programs that are of the draft, or None if they are endless."""
        numbers = [self._number_at(place) for place in self._gaps]
        if 0 in numbers:
            return 0
        if None in numbers:
            return None
        product_of_all = 1
        for number in numbers:
            product_of_all = min(TOO_LONG, product_of_all * number)
        if product_of_all >= TOO_LONG:
            raise TooMany(MAX_DIGITS)
        return product_of_all

    def _number_at(self, place):
        """The number of programs for a gap."""
        question = self._question_at(place)
        parts = list(self._library.parts.values())
        texts = [one.text for one in parts] + [one.text for one in self._told[place][1]]
        return number_from(Texts(), choices_from(question), question, texts)

    def question(self, place):
        """The question at a gap."""
        self._check_gap(place)
        return self._question_at(place)

    def _question_at(self, place):
        wanted, scope = self._told[place]
        return question_in(self._library, scope, wanted.atom)

    def _check_gap(self, place):
        if not is_integer(place) or place not in self._gaps:
            raise InvalidNumber(place)

    def choices(self, place):
        """The heads that can fill a gap, ascending."""
        self._check_gap(place)
        wanted, scope = self._told[place]
        variables = [f"{VARIABLE}{level}" for level, one in enumerate(scope) if one.atom == wanted.atom]
        return tuple(sorted(list(self._library.heads(wanted.atom)) + variables))

    def good_choices(self, place):
        """The heads for a gap after which the draft can be finished, if the other gaps can, ascending."""
        heads = self.choices(place)
        question = self._question_at(place)
        choices = choices_from(question)
        answered = least_ranks(choices)
        good = [text for text, several in choices[question] if all([asked in answered for asked in several])]
        return tuple([head for head in heads if self._type_of(place, head).text in good])

    def _type_of(self, place, head):
        return head_type(self._library, self._told[place][1], head)

    def fill(self, place, head):
        """The draft with a head in the place of a gap, the arguments of which are gaps."""
        if head not in self.choices(place):
            raise UnknownWord(head)
        asked = self._type_of(place, head).inputs
        filled = (self._nodes[place][0], head, len(asked))
        return self._with_nodes(place, place + 1, (filled,) + tuple([_gap_of(one) for one in asked]))

    def put(self, place, other):
        """The draft with the nodes of a program or a draft in the place of a gap."""
        self._check_gap(place)
        wanted, scope = self._told[place]
        # The nodes must make one tree by themselves, and not only together with those behind the gap.
        if not are_nodes(other, len(scope) - len(wanted.inputs)):
            raise InvalidDraft("no nodes of a draft")
        return self._with_nodes(place, place + 1, other)

    def reopen(self, place):
        """The draft with a gap in the place of a node and all below it."""
        self._check_place(place)
        gap = (self._nodes[place][0], GAP, 0)
        return self._with_nodes(place, end_of(self._nodes, place), (gap,))

    def _with_nodes(self, place, end, nodes):
        """The draft with other nodes between two places."""
        return Draft(self._library, self._goal, self._nodes[:place] + nodes + self._nodes[end:])

    def _check_place(self, place):
        if not is_integer(place) or not 0 <= place < len(self._nodes):
            raise InvalidNumber(place)

    def program(self):
        """The program, if there are no gaps."""
        if self._gaps:
            raise InvalidOperation("there are gaps")
        return Program(self._nodes)

    def finish(self):
        """A shortest program of the draft."""
        choices = [choices_from(self._question_at(place)) for place in self._gaps]
        costs = [least_costs(one) for one in choices]
        questions = [self._question_at(place) for place in self._gaps]
        if not all([question in costs[at] for at, question in enumerate(questions)]):
            raise NoProgram(self._goal.text)
        added = sum([costs[at][question] - 1 for at, question in enumerate(questions)])
        if len(self._nodes) + added > MAX_NODES:
            raise TooMany(MAX_NODES)
        nodes = self._nodes
        # From the last gap to the first one, so that places ahead stay as they are.
        for at in range(len(questions) - 1, -1, -1):
            place = self._gaps[at]
            wanted, scope = self._told[place]
            bound = scope[:len(scope) - len(wanted.inputs)]
            plan = plan_of_least(choices[at], costs[at])
            nodes = nodes[:place] + grown_nodes(self._library, wanted, bound, plan, ())[0] + nodes[place + 1:]
        return Program(nodes)

    def is_of(self, program):
        """Whether a program is of the draft."""
        check_program(self._library, self._goal, program)
        return are_within(program.nodes, self._nodes)

    def common_with(self, other):
        """The draft of which just those programs are that are of both, or None if they do not go together."""
        self._check_like(other)
        nodes = common_nodes(self._nodes, other.nodes)
        return None if nodes is None else Draft(self._library, self._goal, nodes)

    def wider_with(self, other):
        """The draft with a gap at each outermost place with unlike nodes."""
        self._check_like(other)
        return Draft(self._library, self._goal, wider_nodes(self._nodes, other.nodes))

    def is_within(self, other):
        """Whether this draft comes of the other one by filling gaps."""
        self._check_like(other)
        return are_within(self._nodes, other.nodes)

    def _check_like(self, other):
        if not isinstance(other, Draft) or other.goal != self._goal or other.library != self._library:
            raise InvalidOperation("no draft of the same goal over the same library")

    def __getitem__(self, at):
        self._check_place(at)
        return self._nodes[at]

    def __len__(self):
        return len(self._nodes)

    def __iter__(self):
        return iter(self._nodes)

    def __eq__(self, other):
        if not isinstance(other, Draft) or self._nodes != other._nodes:
            return False
        return self._library == other._library and self._goal == other._goal

    def __str__(self):
        return str(self._text)


def _gap_of(wanted):
    """The gap where a type is wished."""
    return len(wanted.inputs), GAP, 0
