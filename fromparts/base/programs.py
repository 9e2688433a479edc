"""Programs: trees of nodes, and which types they have."""

from fromparts.base.libraries import Library
from fromparts.base.types import Type
from fromparts.base.words import VARIABLE, is_integer, is_variable, is_word
from fromparts.errors import InvalidLibrary, InvalidNumber, InvalidOperation, InvalidProgram, InvalidType, ParseError

MAX_NODES = 40
MAX_BOUND = 100

_MAX_COUNT = 15
_BINDER = "\\"
_DOT = "."
_OPEN = "("
_CLOSE = ")"
_END = ""


class Program:
    """A tree of nodes (binders, head, arguments), told in preorder."""

    def __init__(self, nodes):
        if not _are_nodes(nodes):
            raise InvalidProgram("no nodes of a program")
        self._nodes = nodes
        self._text = text_of_nodes(nodes)
        self._above = _places_above(nodes)
        self._parts = tuple(sorted(set([head for _, head, _ in nodes if is_word(head)])))

    @classmethod
    def read(cls, text):
        """The program with this text."""
        try:
            found = cls(nodes_of_text(text))
        except InvalidProgram:
            raise ParseError(None) from None
        # A program has one text, so one that binds other variables, or has other blanks, is the text of none.
        if found.text != text:
            raise ParseError(None)
        return found

    @property
    def nodes(self):
        return self._nodes

    @property
    def text(self):
        return self._text

    @property
    def size(self):
        return len(self._nodes)

    @property
    def parts(self):
        return self._parts

    @property
    def counts(self):
        """How often each part is a head."""
        heads = [head for _, head, _ in self._nodes]
        return {name: heads.count(name) for name in self._parts}

    def arguments(self, place):
        """The places of the arguments of a node."""
        self._check_place(place)
        return tuple([at for at, above in enumerate(self._above) if above == place])

    def bound(self, place):
        """How many variables are bound above a node."""
        return sum([self._nodes[at][0] for at in self.way_to(place)[:-1]])

    def way_to(self, place):
        """The places from the root to a node, itself included."""
        self._check_place(place)
        way = [place]
        while way[-1] > 0:
            way.append(self._above[way[-1]])
        return tuple(way[::-1])

    def end(self, place):
        """The place behind a node and all below it."""
        self._check_place(place)
        return end_of(self._nodes, place)

    def renamed(self, names):
        """The program with other words for parts: `names` is a dict from words to different words."""
        if not _are_names(names) or not all([name in names for name in self._parts]):
            raise InvalidOperation("no dict from words, among them all parts, to different words")
        return Program(tuple([(binders, names.get(head, head), many) for binders, head, many in self._nodes]))

    def comes_ahead(self, other):
        """Whether this program has less nodes than the other one, or as many and lesser ones."""
        if not isinstance(other, Program):
            raise InvalidOperation("only a program comes ahead of another one")
        return (len(self._nodes), self._nodes) < (len(other.nodes), other.nodes)

    def _check_place(self, place):
        if not is_integer(place) or not 0 <= place < len(self._nodes):
            raise InvalidNumber(place)

    def __getitem__(self, at):
        if not is_integer(at) or not 0 <= at < len(self._nodes):
            raise InvalidNumber(at)
        return self._nodes[at]

    def __contains__(self, x):
        return x in self._parts

    def __len__(self):
        return len(self._nodes)

    def __iter__(self):
        return iter(self._nodes)

    def __eq__(self, other):
        return isinstance(other, Program) and self._nodes == other._nodes

    def __str__(self):
        return str(self._text)


def check_goal(library, goal):
    """Refuses what is no library, and then what is no type."""
    if not isinstance(library, Library):
        raise InvalidLibrary("no library")
    if not isinstance(goal, Type):
        raise InvalidType("the goal is no type")


def is_program(library, goal, value):
    """Whether the value is a program of this type."""
    check_goal(library, goal)
    return isinstance(value, Program) and typed_nodes(library, goal, value) is not None


def type_at(library, goal, program, place):
    """The type of the program that begins at a node."""
    return _typed_node(library, goal, program, place)[0]


def scope_at(library, goal, program, place):
    """The types of the variables in the scope of a node, by levels."""
    return _typed_node(library, goal, program, place)[1]


def question_at(library, goal, program, place):
    """The question of a node: the texts of all types in its scope and of the parts, and the atom."""
    wanted, scope = _typed_node(library, goal, program, place)
    return question_in(library, scope, wanted.atom)


def question_in(library, scope, atom):
    """The question of an atom with the parts of a library and variables of these types."""
    return tuple(sorted(set(list(library.scope) + [one.text for one in scope]))), atom


def check_program(library, goal, program):
    """Refuses what is no program of the goal; otherwise, for each node, its type and the types in its scope."""
    check_goal(library, goal)
    told = typed_nodes(library, goal, program) if isinstance(program, Program) else None
    if told is None:
        raise InvalidProgram("no program of this type")
    return told


def _typed_node(library, goal, program, place):
    """The type of the program that begins at a node, and the types in the scope of the node."""
    told = check_program(library, goal, program)
    if not is_integer(place) or not 0 <= place < len(told):
        raise InvalidNumber(place)
    return told[place]


def typed_nodes(library, goal, program):
    """For each node its type and the types in its scope, or None if the program is none of this goal."""
    told = []
    due = [(goal, ())]
    for binders, head, many in program.nodes:
        wanted, above = due.pop()
        scope = above + wanted.inputs
        found = head_type(library, scope, head)
        if binders != len(wanted.inputs) or found is None or found.atom != wanted.atom or many != len(found.inputs):
            return None
        told.append((wanted, scope))
        due.extend([(one, scope) for one in found.inputs[::-1]])
    return told


def head_type(library, scope, head):
    """The type of a head, or None if there is no such head in scope."""
    if head in library:
        return library[head]
    if is_variable(head) and level_of(head) < len(scope):
        return scope[level_of(head)]
    return None


def level_of(variable):
    return int(variable[1:])


def end_of(nodes, place):
    """The place behind a node and all below it."""
    due = 1
    while due > 0:
        due += nodes[place][2] - 1
        place += 1
    return place


def text_of_nodes(nodes):
    """The text of a tree of nodes; it is put together from the last node to the first one."""
    bounds = bounds_of(nodes)
    texts = []
    for at in range(len(nodes) - 1, -1, -1):
        binders, head, many = nodes[at]
        text = " ".join([head] + texts[len(texts) - many:][::-1])
        texts = texts[:len(texts) - many]
        if binders > 0:
            levels = range(bounds[at], bounds[at] + binders)
            text = _BINDER + " ".join([f"{VARIABLE}{level}" for level in levels]) + _DOT + " " + text
        texts.append(f"({text})" if at > 0 and (binders > 0 or many > 0) else text)
    return texts[0]


def bounds_of(nodes):
    """For each node how many variables are bound above it."""
    bounds = []
    due = [0]
    for binders, _, many in nodes:
        bounds.append(due.pop())
        due.extend([bounds[-1] + binders] * many)
    return bounds


def nodes_of_text(text):
    """The only nodes that can have this text, if there are any with it, which is still to be asked."""
    if not isinstance(text, str):
        raise ParseError(None)
    for mark in (_BINDER, _DOT, _OPEN, _CLOSE):
        text = text.replace(mark, f" {mark} ")
    tokens = [_END] + text.split()[::-1]
    nodes = []
    # What is left behind the node stands in no text of nodes, so that the texts differ.
    _read_node(tokens, nodes)
    return tuple(nodes)


def _read_node(tokens, nodes):
    """Takes what belongs to one node from the end of the tokens, and adds it and what is below it to the nodes."""
    # Beyond the limit a text is that of no program, and could nest far deeper than calls can.
    if len(nodes) >= MAX_NODES:
        raise ParseError(None)
    binders = _read_binders(tokens)
    place = len(nodes)
    head = _read_name(tokens)
    nodes.append((binders, head, 0))
    many = 0
    while tokens[-1] not in (_CLOSE, _END):
        many += 1
        if tokens[-1] != _OPEN:
            nodes.append((0, _read_name(tokens), 0))
            continue
        tokens.pop()
        _read_node(tokens, nodes)
        if tokens[-1] != _CLOSE:
            raise ParseError(None)
        tokens.pop()
    nodes[place] = (binders, head, many)


def _read_binders(tokens):
    """Takes the variables that are bound; how many there are. Their names are told by their number."""
    if tokens[-1] != _BINDER:
        return 0
    tokens.pop()
    many = 0
    while tokens[-1] != _DOT:
        _read_name(tokens)
        many += 1
    tokens.pop()
    return many


def _read_name(tokens):
    if tokens[-1] in (_BINDER, _DOT, _OPEN, _CLOSE, _END):
        raise ParseError(None)
    return tokens.pop()


def _are_nodes(nodes):
    if not isinstance(nodes, tuple) or not 1 <= len(nodes) <= MAX_NODES:
        return False
    if not all([_is_node(node) for node in nodes]):
        return False
    # How many variables are bound above each of the nodes that are still due, the next one last.
    due = [0]
    for binders, head, many in nodes:
        if not due:
            return False
        bound = due.pop() + binders
        if bound > MAX_BOUND or (is_variable(head) and level_of(head) >= bound):
            return False
        due.extend([bound] * many)
    return not due


def _is_node(value):
    if not isinstance(value, tuple) or len(value) != 3:
        return False
    return _is_count(value[0]) and (is_word(value[1]) or is_variable(value[1])) and _is_count(value[2])


def _is_count(value):
    return is_integer(value) and 0 <= value <= _MAX_COUNT


def _places_above(nodes):
    """For each node the place of the one above it, and None for the root."""
    places = []
    due = [None]
    for at, node in enumerate(nodes):
        places.append(due.pop())
        due.extend([at] * node[2])
    return places


def _are_names(names):
    if not isinstance(names, dict) or not all([is_word(name) and is_word(names[name]) for name in names]):
        return False
    return len(set(list(names.values()))) == len(names)
