"""Programs as terms with named variables, worked out step by step from the outermost place, as a plain model.

A term is ("part", name), ("var", name), ("lam", name, body) or ("app", function, argument).
"""

import itertools

FRESH = itertools.count()


def term_of(nodes):
    """The term of the nodes of a program, in which each variable has a name of its own."""
    left = list(nodes)

    def taken(scope):
        binders, head, many = left.pop(0)
        names = [next(FRESH) for _ in range(binders)]
        scope = scope + names
        term = ("var", scope[int(head[1:])]) if head[1:].isdigit() else ("part", head)
        for _ in range(many):
            term = ("app", term, taken(scope))
        for name in reversed(names):
            term = ("lam", name, term)
        return term

    return taken([])


def copied(term, names):
    """A term with new names for the variables that it binds."""
    if term[0] == "var":
        return ("var", names.get(term[1], term[1]))
    if term[0] == "lam":
        name = next(FRESH)
        return ("lam", name, copied(term[2], {**names, term[1]: name}))
    if term[0] == "app":
        return ("app", copied(term[1], names), copied(term[2], names))
    return term


def with_var(term, name, other):
    """A term with another one in the place of a variable."""
    if term == ("var", name):
        return copied(other, {})
    if term[0] == "lam":
        return ("lam", term[1], with_var(term[2], name, other))
    if term[0] == "app":
        return ("app", with_var(term[1], name, other), with_var(term[2], name, other))
    return term


def with_parts(term, terms):
    """A term with others in the place of parts."""
    if term[0] == "part" and term[1] in terms:
        return copied(terms[term[1]], {})
    if term[0] == "lam":
        return ("lam", term[1], with_parts(term[2], terms))
    if term[0] == "app":
        return ("app", with_parts(term[1], terms), with_parts(term[2], terms))
    return term


def worked_out(term):
    """The term without functions that are defined and called at once."""
    if term[0] == "lam":
        return ("lam", term[1], worked_out(term[2]))
    if term[0] == "app":
        function = worked_out(term[1])
        if function[0] == "lam":
            return worked_out(with_var(function[2], function[1], term[2]))
        return ("app", function, worked_out(term[2]))
    return term


def nodes_of(term, levels=None):
    """The nodes of a term that is worked out, and in which each head has all its arguments."""
    levels = dict(levels or {})
    binders = 0
    while term[0] == "lam":
        levels[term[1]] = len(levels)
        binders += 1
        term = term[2]
    arguments = []
    while term[0] == "app":
        arguments.insert(0, term[2])
        term = term[1]
    head = term[1] if term[0] == "part" else f"x{levels[term[1]]}"
    row = ((binders, head, len(arguments)),)
    for one in arguments:
        row += nodes_of(one, levels)
    return row


def plainly_applied(nodes, several):
    """The nodes that come of applying a program to others."""
    term = term_of(nodes)
    for one in several:
        term = ("app", term, term_of(one))
    return nodes_of(worked_out(term))


def plainly_put(nodes, puts):
    """The nodes that come of putting programs in the place of parts, given as a dict to nodes."""
    return nodes_of(worked_out(with_parts(term_of(nodes), {name: term_of(puts[name]) for name in puts})))


def own_nodes(kind, head, level=0):
    """The nodes of the own program of a head, of which the type is told as a tree."""
    inputs, _ = kind
    row = ((len(inputs), head, len(inputs)),)
    for at, one in enumerate(inputs):
        row += own_nodes(one, f"x{level + at}", level + len(inputs))
    return row
