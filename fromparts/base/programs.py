"""Programs: trees of nodes, and which types they have."""

from fromparts.base.libraries import Library
from fromparts.base.nodes import are_nodes, end_of, gaps_of, level_of, nodes_with_text, places_above, text_of_nodes
from fromparts.base.types import Type
from fromparts.base.words import GAP, is_integer, is_variable, is_word
from fromparts.errors import InvalidLibrary, InvalidNumber, InvalidOperation, InvalidProgram, InvalidType, ParseError

MAX_NODES = 40


class Program:
    """A tree of nodes (binders, head, arguments), told in preorder."""

    def __init__(self, nodes):
        if not are_nodes(nodes, 0) or len(nodes) > MAX_NODES or gaps_of(nodes):
            raise InvalidProgram("no nodes of a program")
        self._nodes = nodes
        self._text = text_of_nodes(nodes)
        self._above = places_above(nodes)
        self._parts = tuple(sorted(set([head for _, head, _ in nodes if is_word(head)])))

    @classmethod
    def read(cls, text):
        """The program with this text."""
        try:
            return cls(nodes_with_text(text))
        except InvalidProgram:
            raise ParseError(None) from None

    @property
    def nodes(self):
        return self._nodes

    @property
    def text(self):
        return self._text

    @property
    def size(self):
        return len(self._nodes)

    @property
    def parts(self):
        return self._parts

    @property
    def counts(self):
        """How often each part is a head."""
        heads = [head for _, head, _ in self._nodes]
        return {name: heads.count(name) for name in self._parts}

    def arguments(self, place):
        """The places of the arguments of a node."""
        self._check_place(place)
        return tuple([at for at, above in enumerate(self._above) if above == place])

    def bound(self, place):
        """How many variables are bound above a node."""
        return sum([self._nodes[at][0] for at in self.way_to(place)[:-1]])

    def way_to(self, place):
        """The places from the root to a node, itself included."""
        self._check_place(place)
        way = [place]
        while way[-1] > 0:
            way.append(self._above[way[-1]])
        return tuple(way[::-1])

    def end(self, place):
        """The place behind a node and all below it."""
        self._check_place(place)
        return end_of(self._nodes, place)

    def renamed(self, names):
        """The program with other words for parts: `names` is a dict from words to different words."""
        if not _are_names(names) or not all([name in names for name in self._parts]):
            raise InvalidOperation("no dict from words, among them all parts, to different words")
        return Program(tuple([(binders, names.get(head, head), many) for binders, head, many in self._nodes]))

    def comes_ahead(self, other):
        """Whether this program has less nodes than the other one, or as many and lesser ones."""
        if not isinstance(other, Program):
            raise InvalidOperation("only a program comes ahead of another one")
        return (len(self._nodes), self._nodes) < (len(other.nodes), other.nodes)

    def _check_place(self, place):
        if not is_integer(place) or not 0 <= place < len(self._nodes):
            raise InvalidNumber(place)

    def __getitem__(self, at):
        if not is_integer(at) or not 0 <= at < len(self._nodes):
            raise InvalidNumber(at)
        return self._nodes[at]

    def __contains__(self, x):
        return x in self._parts

    def __len__(self):
        return len(self._nodes)

    def __iter__(self):
        return iter(self._nodes)

    def __eq__(self, other):
        return isinstance(other, Program) and self._nodes == other._nodes

    def __str__(self):
        return str(self._text)


def check_goal(library, goal):
    """Refuses what is no library, and then what is no type."""
    if not isinstance(library, Library):
        raise InvalidLibrary("no library")
    if not isinstance(goal, Type):
        raise InvalidType("the goal is no type")


def is_program(library, goal, value):
    """Whether the value is a program of this type."""
    check_goal(library, goal)
    return isinstance(value, Program) and typed_nodes(library, goal, value.nodes) is not None


def type_at(library, goal, program, place):
    """The type of the program that begins at a node."""
    return _typed_node(library, goal, program, place)[0]


def scope_at(library, goal, program, place):
    """The types of the variables in the scope of a node, by levels."""
    return _typed_node(library, goal, program, place)[1]


def question_at(library, goal, program, place):
    """The question of a node: the texts of all types in its scope and of the parts, and the atom."""
    wanted, scope = _typed_node(library, goal, program, place)
    return question_in(library, scope, wanted.atom)


def question_in(library, scope, atom):
    """The question of an atom with the parts of a library and variables of these types."""
    return tuple(sorted(set(list(library.scope) + [one.text for one in scope]))), atom


def check_program(library, goal, program):
    """Refuses what is no program of the goal; otherwise, for each node, its type and the types in its scope."""
    check_goal(library, goal)
    told = typed_nodes(library, goal, program.nodes) if isinstance(program, Program) else None
    if told is None:
        raise InvalidProgram("no program of this type")
    return told


def _typed_node(library, goal, program, place):
    """The type of the program that begins at a node, and the types in the scope of the node."""
    told = check_program(library, goal, program)
    if not is_integer(place) or not 0 <= place < len(told):
        raise InvalidNumber(place)
    return told[place]


def typed_nodes(library, goal, nodes):
    """For each node its type and the types in its scope, or None if these are no nodes of this goal."""
    told = []
    due = [(goal, ())]
    for binders, head, many in nodes:
        wanted, above = due.pop()
        scope = above + wanted.inputs
        asked = _asked_by_head(library, scope, head, wanted.atom)
        if asked is None or binders != len(wanted.inputs) or many != len(asked):
            return None
        told.append((wanted, scope))
        due.extend([(one, scope) for one in asked[::-1]])
    return told


def _asked_by_head(library, scope, head, atom):
    """The types of the arguments of a head, or None if there is no such head of this atom in scope."""
    if head == GAP:
        return ()
    found = head_type(library, scope, head)
    return found.inputs if found is not None and found.atom == atom else None


def head_type(library, scope, head):
    """The type of a head, or None if there is no such head in scope."""
    if head in library:
        return library[head]
    if is_variable(head) and level_of(head) < len(scope):
        return scope[level_of(head)]
    return None


def _are_names(names):
    if not isinstance(names, dict) or not all([is_word(name) and is_word(names[name]) for name in names]):
        return False
    return len(set(list(names.values()))) == len(names)
