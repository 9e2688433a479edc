"""A plain search of the tests' own for programs, ranks and plans, without the program's own way to them.

Types are trees (inputs, atom) here, libraries are tuples of pairs of a name and a tree, and programs tuples of nodes.
"""

import itertools
from functools import lru_cache

from trees import text_of


def tree(kind):
    """The tree of a type."""
    return tuple(tree(one) for one in kind.inputs), kind.atom


def parts_of(library):
    return tuple((name, tree(library[name])) for name in library)


@lru_cache(maxsize=None)
def programs(parts, scope, wanted, size):
    """The nodes of all programs of a type with just so many nodes, with variables of these types above, in order."""
    inputs, atom = wanted
    if len(scope) + len(inputs) > 100 or size < 1:
        return ()
    inner = scope + inputs
    heads = parts + tuple((f"x{level}", kind) for level, kind in enumerate(inner))
    found = []
    for head, kind in heads:
        if kind[1] == atom:
            first = ((len(inputs), head, len(kind[0])),)
            found.extend(first + nodes for nodes in rows(parts, inner, kind[0], size - 1))
    return tuple(sorted(found))


def rows(parts, scope, wanted, size):
    """The nodes of all rows of programs of these types with so many nodes in all."""
    if not wanted:
        return [()] if size == 0 else []
    found = []
    for many in range(1, size - len(wanted) + 2):
        for nodes in programs(parts, scope, wanted[0], many):
            found.extend(nodes + more for more in rows(parts, scope, wanted[1:], size - many))
    return found


def programs_upto(library, goal, size):
    """The nodes of all programs with at most so many nodes, in order."""
    return [nodes for many in range(1, size + 1) for nodes in programs(parts_of(library), (), tree(goal), many)]


def first_of(library, goal):
    """The question of a type in a library, with trees in its scope."""
    kinds = [kind for _, kind in parts_of(library)] + [tree(one) for one in goal.inputs]
    return frozenset(kinds), goal.atom


def choices_of(question):
    """For each choice of heads of a question the tuple of the subquestions."""
    scope, atom = question
    return {kind: tuple((scope | frozenset(inputs), wanted) for inputs, wanted in kind[0])
            for kind in scope if kind[1] == atom}


@lru_cache(maxsize=None)
def asked(first):
    """All questions that are asked for one, with their choices."""
    found = {}
    due = [first]
    while due:
        question = due.pop()
        if question not in found:
            found[question] = choices_of(question)
            due.extend(one for several in found[question].values() for one in several)
    return found


@lru_cache(maxsize=None)
def height(question, fuel):
    """Whether a question is answered with ranks up to this one."""
    return fuel > 0 and any(all(height(one, fuel - 1) for one in several)
                            for several in choices_of(question).values())


def ranks_of(first):
    """The least ranks of the answered questions that are asked: the least fuel with which each is answered."""
    every = asked(first)
    return {question: next(fuel for fuel in range(1, len(every) + 1) if height(question, fuel))
            for question in every if height(question, len(every))}


def told(question):
    """A question as the program tells it."""
    scope, atom = question
    return tuple(sorted(text_of(kind) for kind in scope)), atom


def usable_of(first):
    """The questions at the places of programs: those that whole choices lead to."""
    answered = ranks_of(first)
    found = []
    due = [first] if first in answered else []
    while due:
        question = due.pop()
        if question not in found:
            found.append(question)
            for several in choices_of(question).values():
                if all(one in answered for one in several):
                    due.extend(several)
    return found


def questions_in(library, goal, nodes):
    """For each node of a program its question, with trees."""
    parts = dict(parts_of(library))
    found = []
    due = [(tree(goal), ())]
    for _, head, _ in nodes:
        wanted, above = due.pop()
        scope = above + wanted[0]
        found.append((frozenset(parts.values()) | frozenset(scope), wanted[1]))
        kind = parts[head] if head in parts else scope[int(head[1:])]
        due.extend((one, scope) for one in reversed(kind[0]))
    return found


def closed_dicts(first):
    """All dicts from questions to choices that have the first one, and just what their choices ask."""
    every = asked(first)
    options = [[(question, kind) for kind in every[question]] + [None] for question in every]
    found = []
    for picked in itertools.product(*options):
        taken = dict(pair for pair in picked if pair is not None)
        if first in taken and set(taken) == reached(taken, first):
            found.append(taken)
    return found


def reached(taken, first):
    found = {first}
    due = [first]
    while due:
        question = due.pop()
        if question in taken:
            for one in choices_of(question)[taken[question]]:
                if one not in found:
                    found.add(one)
                    due.append(one)
    return found


def comes_to_an_end(taken, question, above=()):
    """Whether no way from a question by the choices taken comes back to a question."""
    if question in above:
        return False
    return all(comes_to_an_end(taken, one, above + (question,)) for one in choices_of(question)[taken[question]])


def is_borne(reach, truths, world, wanted):
    """Whether a world bears a type, told straight from the words of the document."""
    inputs, atom = wanted
    return all(atom in truths[other] for other in reach[world]
               if all(is_borne(reach, truths, other, one) for one in inputs))


def whole_steps(first):
    """For each usable question the subquestions of its choices all of whose subquestions are answered."""
    answered = ranks_of(first)
    return {question: [one for several in choices_of(question).values() if all(inner in answered for inner in several)
                       for one in several] for question in usable_of(first)}


def is_endless(first):
    """Whether some question comes up within itself in a program: by all steps that lead on from it."""
    steps = whole_steps(first)
    for question in steps:
        found = list(steps[question])
        for one in found:
            found.extend(inner for inner in steps[one] if inner not in found)
        if question in found:
            return True
    return False


def total(library, goal):
    """The number of all programs of a goal of which there are not endlessly many."""
    return total_in(parts_of(library), (), tree(goal))


@lru_cache(maxsize=None)
def total_in(parts, scope, wanted):
    scope = scope + wanted[0]
    kinds = [kind for _, kind in parts] + list(scope)
    number = 0
    for kind in kinds:
        if kind[1] == wanted[1] and all(height((frozenset(kinds) | frozenset(one[0]), one[1]), 60) for one in kind[0]):
            ways = 1
            for one in kind[0]:
                ways *= total_in(parts, scope, one)
            number += ways
    return number


class Named:
    """A program as a tree whose binders have names of their own: the node, its binders, and its arguments."""

    def __init__(self, nodes):
        self.fresh = itertools.count()
        self.place = 0
        self.nodes = nodes
        self.root = self.tree_at(())

    def tree_at(self, scope):
        place = self.place
        binders, head, many = self.nodes[place]
        self.place += 1
        names = tuple(next(self.fresh) for _ in range(binders))
        scope += names
        named = scope[int(head[1:])] if head[0] == "x" and len(head) > 1 else head
        return place, names, named, [self.tree_at(scope) for _ in range(many)]

    def pumped(self, outer, inner, times):
        """The nodes when the head and the arguments at the outer place stand at the inner one so many times."""
        below = self.at(self.root, outer)

        def copy(node, renamed, left):
            place, names, head, several = node
            fresh = {name: next(self.fresh) for name in names}
            renamed = {**renamed, **fresh}
            if place == inner and left > 0:
                # What stands at the outer place knows the variables that are bound there and above only.
                _, _, other, arguments = below
                return place, tuple(fresh.values()), other, [copy(one, {}, left - 1) for one in arguments]
            return place, tuple(fresh.values()), renamed.get(head, head), [copy(one, renamed, left) for one in several]

        def changed(node):
            place, names, head, several = node
            if place == outer:
                return place, names, head, [copy(one, {}, times) for one in several]
            return place, names, head, [changed(one) for one in several]

        return self.nodes_of(changed(self.root), {})

    def at(self, node, place):
        if node[0] == place:
            return node
        return next((found for found in (self.at(one, place) for one in node[3]) if found), None)

    def nodes_of(self, node, levels):
        _, names, head, several = node
        levels = {**levels, **{name: len(levels) + at for at, name in enumerate(names)}}
        told_head = head if isinstance(head, str) else f"x{levels[head]}"
        row = ((len(names), told_head, len(several)),)
        for one in several:
            row += self.nodes_of(one, levels)
        return row
