"""Trees (binders, head, arguments) whose variables are numbers of their own, and not told by levels."""

from fromparts.base.words import VARIABLE


def nodes_of_tree(tree, names, level):
    """The nodes of a tree with so many variables bound above; a free variable without a name stays as its number."""
    binders, head, below = tree
    inner = {**names, **{one: f"{VARIABLE}{level + at}" for at, one in enumerate(binders)}}
    nodes = ((len(binders), inner.get(head, head), len(below)),)
    for one in below:
        nodes = nodes + nodes_of_tree(one, inner, level + len(binders))
    return nodes


def free_variables(nodes):
    """The variables without names among the heads."""
    return [head for _, head, _ in nodes if not isinstance(head, str)]


def with_heads(tree, heads):
    """The tree with other heads, each with arguments ahead of those that stand there."""
    binders, head, below = tree
    other, ahead = heads.get(head, (head, ()))
    return binders, other, ahead + tuple([with_heads(one, heads) for one in below])


def with_picks(tree, heads):
    """The tree with other heads, each with one argument, which picks a variable for what stood there."""
    binders, head, below = tree
    inner = tuple([with_picks(one, heads) for one in below])
    if head not in heads:
        return binders, head, inner
    other, picked, variable = heads[head]
    return binders, other, ((picked, variable, inner),)


class Numbers:
    """Numbers for variables, each of which is told once."""

    def __init__(self):
        self._next = 0

    def some(self, many):
        """So many new numbers."""
        first = self._next
        self._next = first + many
        return tuple(range(first, first + many))

    def own_tree(self, wanted, head):
        """The own tree of a head of a type."""
        binders = self.some(len(wanted.inputs))
        return binders, head, tuple([self.own_tree(one, binders[at]) for at, one in enumerate(wanted.inputs)])
