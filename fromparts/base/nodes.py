"""Rows of nodes (binders, head, arguments), which stand in preorder and make one tree, and their texts."""

from fromparts.base.words import GAP, VARIABLE, is_integer, is_variable, is_word
from fromparts.errors import ParseError

MAX_BOUND = 100

_MAX_COUNT = 15
_BINDER = "\\"
_DOT = "."
_OPEN = "("
_CLOSE = ")"
_END = ""


def are_nodes(nodes, bound):
    """Whether these are nodes of one tree below so many variables; some can be gaps, and they can have any number."""
    if not isinstance(nodes, tuple) or not all([_is_node(node) for node in nodes]):
        return False
    # How many variables are bound above each of the nodes that are still due, the next one last.
    due = [bound]
    for binders, head, many in nodes:
        if not due:
            return False
        inner = due.pop() + binders
        if inner > MAX_BOUND or (is_variable(head) and level_of(head) >= inner):
            return False
        due.extend([inner] * many)
    return not due


def _is_node(value):
    if not isinstance(value, tuple) or len(value) != 3 or not _is_count(value[0]) or not _is_count(value[2]):
        return False
    if is_word(value[1]) or is_variable(value[1]):
        return True
    return isinstance(value[1], str) and value[1] == GAP and value[2] == 0


def _is_count(value):
    return is_integer(value) and 0 <= value <= _MAX_COUNT


def gaps_of(nodes):
    """The places of the gaps, ascending."""
    return tuple([at for at, node in enumerate(nodes) if node[1] == GAP])


def level_of(variable):
    return int(variable[1:])


def end_of(nodes, place):
    """The place behind a node and all below it."""
    due = 1
    while due > 0:
        due += nodes[place][2] - 1
        place += 1
    return place


def places_above(nodes):
    """For each node the place of the one above it, and None for the root."""
    places = []
    due = [None]
    for at, node in enumerate(nodes):
        places.append(due.pop())
        due.extend([at] * node[2])
    return places


def places_below(nodes):
    """For each node the places of its arguments."""
    above = places_above(nodes)
    return [tuple([at for at, other in enumerate(above) if other == place]) for place in range(len(nodes))]


def bounds_of(nodes):
    """For each node how many variables are bound above it."""
    bounds = []
    due = [0]
    for binders, _, many in nodes:
        bounds.append(due.pop())
        due.extend([bounds[-1] + binders] * many)
    return bounds


def text_of_nodes(nodes):
    """The text of a tree of nodes; it is put together from the last node to the first one."""
    bounds = bounds_of(nodes)
    texts = []
    for at in range(len(nodes) - 1, -1, -1):
        binders, head, many = nodes[at]
        text = " ".join([head] + texts[len(texts) - many:][::-1])
        texts = texts[:len(texts) - many]
        if binders > 0:
            levels = range(bounds[at], bounds[at] + binders)
            text = _BINDER + " ".join([f"{VARIABLE}{level}" for level in levels]) + _DOT + " " + text
        texts.append(f"({text})" if at > 0 and (binders > 0 or many > 0) else text)
    return texts[0]


def nodes_with_text(text):
    """The nodes that have this text, of which there can be any number."""
    nodes = _nodes_of_text(text)
    # A tree has one text, so one that binds other variables, or has other blanks, is the text of none.
    if not are_nodes(nodes, 0) or text_of_nodes(nodes) != text:
        raise ParseError(None)
    return nodes


def _nodes_of_text(text):
    """The only nodes that can have this text, if there are any with it, which is still to be asked."""
    if not isinstance(text, str):
        raise ParseError(None)
    for mark in (_BINDER, _DOT, _OPEN, _CLOSE):
        text = text.replace(mark, f" {mark} ")
    tokens = [_END] + text.split()[::-1]
    nodes = []
    # The places of the nodes whose arguments are read, the innermost one last: there can be thousands.
    begun = [_begin_node(tokens, nodes)]
    while begun:
        if tokens[-1] in (_CLOSE, _END):
            begun.pop()
            if begun and tokens.pop() != _CLOSE:
                raise ParseError(None)
            continue
        binders, head, many = nodes[begun[-1]]
        nodes[begun[-1]] = (binders, head, many + 1)
        if tokens[-1] == _OPEN:
            tokens.pop()
            begun.append(_begin_node(tokens, nodes))
        else:
            nodes.append((0, _read_name(tokens), 0))
    # What is left behind the root stands in no text of nodes, so that the texts differ.
    return tuple(nodes)


def _begin_node(tokens, nodes):
    """Takes the binders and the head of a node from the end of the tokens; the place of the node."""
    binders = _read_binders(tokens)
    nodes.append((binders, _read_name(tokens), 0))
    return len(nodes) - 1


def _read_binders(tokens):
    """Takes the variables that are bound; how many there are. Their names are told by their number."""
    if tokens[-1] != _BINDER:
        return 0
    tokens.pop()
    many = 0
    while tokens[-1] != _DOT:
        _read_name(tokens)
        many += 1
    tokens.pop()
    return many


def _read_name(tokens):
    if tokens[-1] in (_BINDER, _DOT, _OPEN, _CLOSE, _END):
        raise ParseError(None)
    return tokens.pop()
