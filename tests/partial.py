"""A plain model of drafts: trees of nodes with gaps, told apart from the program's own way to them."""

from functools import lru_cache

from search import height, is_endless, parts_of, ranks_of, total_in, tree

GAP = "?"


@lru_cache(maxsize=None)
def partials(parts, scope, wanted, size):
    """The nodes of all drafts of a type with just so many nodes, with variables of these types above."""
    inputs, atom = wanted
    inner = scope + inputs
    found = [((len(inputs), GAP, 0),)] if size == 1 else []
    for head, kind in parts + tuple((f"x{level}", kind) for level, kind in enumerate(inner)):
        if kind[1] == atom:
            first = ((len(inputs), head, len(kind[0])),)
            found.extend(first + nodes for nodes in partial_rows(parts, inner, kind[0], size - 1))
    return tuple(sorted(found))


def partial_rows(parts, scope, wanted, size):
    if not wanted:
        return [()] if size == 0 else []
    return [nodes + more for many in range(1, size - len(wanted) + 2)
            for nodes in partials(parts, scope, wanted[0], many)
            for more in partial_rows(parts, scope, wanted[1:], size - many)]


def partials_upto(library, goal, size):
    return [nodes for many in range(1, size + 1) for nodes in partials(parts_of(library), (), tree(goal), many)]


def forest(nodes):
    """A row of nodes as a tree (node, subtrees)."""
    left = list(nodes)

    def taken():
        node = left.pop(0)
        return node, [taken() for _ in range(node[2])]

    return taken()


def flat(branch):
    node, below = branch
    return (node,) + tuple(inner for one in below for inner in flat(one))


def fits(branch, wide):
    """Whether a tree comes of another one by filling gaps."""
    if wide[0][1] == GAP:
        return True
    return branch[0] == wide[0] and all(fits(one, other) for one, other in zip(branch[1], wide[1]))


def plain_fits(nodes, wide):
    return fits(forest(nodes), forest(wide))


def plain_common(one, other):
    """The nodes of the draft of which just those programs are that are of both, or None."""
    def met(branch, beside):
        if branch[0][1] == GAP:
            return beside
        if beside[0][1] == GAP:
            return branch
        if branch[0] != beside[0]:
            return None
        below = [met(inner, outer) for inner, outer in zip(branch[1], beside[1])]
        return None if None in below else (branch[0], below)

    found = met(forest(one), forest(other))
    return None if found is None else flat(found)


def plain_wider(one, other):
    def met(branch, beside):
        if branch[0] != beside[0]:
            return (branch[0][0], GAP, 0), []
        return branch[0], [met(inner, outer) for inner, outer in zip(branch[1], beside[1])]

    return flat(met(forest(one), forest(other)))


def gaps_in(library, goal, nodes):
    """For each gap its place, its type, and the types in scope above it, as trees."""
    parts = dict(parts_of(library))
    found = []
    due = [(tree(goal), ())]
    for place, (_, head, _) in enumerate(nodes):
        wanted, above = due.pop()
        scope = above + wanted[0]
        if head == GAP:
            found.append((place, wanted, above))
            continue
        kind = parts[head] if head in parts else scope[int(head[1:])]
        due.extend((one, scope) for one in reversed(kind[0]))
    return found


def question_at(library, wanted, above):
    kinds = [kind for _, kind in parts_of(library)] + list(above + wanted[0])
    return frozenset(kinds), wanted[1]


def plain_choices(library, wanted, above):
    """For each head that can fill a gap its type."""
    scope = above + wanted[0]
    heads = parts_of(library) + tuple((f"x{level}", kind) for level, kind in enumerate(scope))
    return {head: kind for head, kind in sorted(heads) if kind[1] == wanted[1]}


def plain_good(library, wanted, above):
    scope, _ = question_at(library, wanted, above)
    return tuple(head for head, kind in plain_choices(library, wanted, above).items()
                 if all(height((scope | frozenset(one[0]), one[1]), 60) for one in kind[0]))


def plain_ways(library, goal, nodes):
    """The number of the programs that are of a draft, or None if they are endless."""
    several = gaps_in(library, goal, nodes)
    firsts = [question_at(library, wanted, above) for _, wanted, above in several]
    if not all(first in ranks_of(first) for first in firsts):
        return 0
    if any(is_endless(first) for first in firsts):
        return None
    number = 1
    for _, wanted, above in several:
        number *= total_in(parts_of(library), above, wanted)
    return number
