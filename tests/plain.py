"""What libraries build, told by the plain search: sets of parts and of wishes, cores, and uses."""

import itertools

from search import choices_of, first_of, ranks_of, tree, usable_of


def is_built(library, goal, wishes=()):
    """Whether a type has a program, with parts of more types beside those of the library."""
    scope, atom = first_of(library, goal)
    first = (scope | frozenset(tree(one) for one in wishes), atom)
    return first in ranks_of(first)


def rows_of(items):
    """All rows of some items, in their order."""
    return [row for many in range(len(items) + 1) for row in itertools.combinations(items, many)]


def least_rows(items, is_enough):
    """The rows that are enough, and of which none without one item is."""
    good = {row for row in rows_of(items) if is_enough(row)}
    return tuple(sorted(row for row in good
                        if not any(row[:at] + row[at + 1:] in good for at in range(len(row)))))


def plain_use(library, goal, part):
    """The use of a part for a goal with programs."""
    if not is_built(library.without(part), goal):
        return "every"
    first = first_of(library, goal)
    answered = ranks_of(first)
    kind = tree(library[part])
    for question in usable_of(first):
        for head, several in choices_of(question).items():
            if head == kind and all(one in answered for one in several):
                return "some"
    return "none"


def plain_surplus(library):
    return tuple(part for part in library if is_built(library.without(part), library[part]))


def plain_does(one, other):
    return all(is_built(one, other[part]) for part in other)


def plain_cores(library):
    return least_rows(library.names, lambda row: plain_does(library.only(*row), library))
