"""How many programs of each size there are, by how often each type is in scope.

A scope is told here by its number, in the order in which scopes come up; a type by its number among those that can
come into scope; sets of types and of sizes by the bits of an integer.
"""

from fromparts.base.bits import bits_of, has_bit
from fromparts.base.nodes import MAX_BOUND
from fromparts.errors import TooMany

MAX_TRIPLES = 20000


class Kinds:
    """The types that can come into scope for a goal, with what their arguments ask."""

    def __init__(self, library, goal):
        self._parts = list(library.parts.values())
        by_text = {part.text: part for one in self._parts + list(goal.inputs) for part in one.parts}
        kinds = [by_text[text] for text in sorted(by_text)]
        self._numbers = {kind.text: at for at, kind in enumerate(kinds)}
        self._asks = [[(self.numbers_of(one.inputs), one.atom) for one in kind.inputs] for kind in kinds]
        self._heads = {}
        for at, kind in enumerate(kinds):
            self._heads.setdefault(kind.atom, []).append(at)

    def numbers_of(self, several):
        """The numbers of some types."""
        return [self._numbers[one.text] for one in several]

    def many_parts(self):
        return len(self._parts)

    def outer_counts(self):
        """How often each type is in scope with the parts alone."""
        numbers = self.numbers_of(self._parts)
        return tuple([numbers.count(at) for at in range(len(self._asks))])

    def heads_with(self, atom):
        """The numbers of the types with this atom, ascending."""
        return self._heads.get(atom, [])

    def asks_of(self, kind):
        """For each argument of a type the types that come into scope, and the atom that is asked."""
        return self._asks[kind]


class Tally:
    """The numbers of programs, each of which is worked out once."""

    def __init__(self, library, goal):
        self._kinds = Kinds(library, goal)
        self._rows = []
        self._found = {}
        self._after = {}
        self._known = {}
        self._possible = {}
        self._limit = -1
        self._first = self.wider_by(self.outer_scope(), goal.inputs)
        self._goal = goal

    def number_with(self, size):
        """The number of the programs of the goal with this size."""
        self.allow(size)
        return self.ways(self._first, self._goal.atom, size)

    def most_nodes(self):
        """The size up to which it has been worked out which sizes programs can have."""
        return self._limit

    def outer_scope(self):
        """The scope of the parts alone."""
        return self._scope_with(self._kinds.outer_counts())

    def _scope_with(self, counts):
        if counts not in self._found:
            self._found[counts] = len(self._rows)
            # More variables than a program can have on one way cannot be bound.
            is_deep = sum(counts) - self._kinds.many_parts() > MAX_BOUND
            self._rows.append((counts, bits_of([at for at, many in enumerate(counts) if many > 0]), is_deep))
        return self._found[counts]

    def wider(self, scope, kinds):
        """The scope with more types of these numbers."""
        added = (scope, tuple(kinds))
        if added not in self._after:
            counts = self._rows[scope][0]
            self._after[added] = self._scope_with(tuple([many + kinds.count(at) for at, many in enumerate(counts)]))
        return self._after[added]

    def wider_by(self, scope, several):
        """The scope with more of these types."""
        return self.wider(scope, self._kinds.numbers_of(several))

    def sizes(self, scope, atom):
        """The sizes that programs can have, as far as they have been allowed."""
        _, bits, is_deep = self._rows[scope]
        return 0 if is_deep else self._possible.get((bits, atom), 0)

    def ways(self, scope, atom, size):
        """The number of programs of this size for an atom in a scope."""
        triple = (scope, atom, size)
        if not has_bit(self.sizes(scope, atom), size):
            return 0
        if triple not in self._known:
            counts = self._rows[scope][0]
            found = [counts[kind] * self._ways_with(scope, kind, size) for kind in self._kinds.heads_with(atom)
                     if counts[kind] > 0]
            self._known[triple] = sum(found)
            if len(self._known) > MAX_TRIPLES:
                raise TooMany(MAX_TRIPLES)
        return self._known[triple]

    def _ways_with(self, scope, kind, size):
        """The number of programs of this size with one head of this type at the root."""
        asked = [(self.wider(scope, added), atom) for added, atom in self._kinds.asks_of(kind)]
        masks = [self.sizes(inner, atom) for inner, atom in asked]
        left = {size - 1: 1}
        for at, (inner, atom) in enumerate(asked):
            behind = joined_sizes(masks[at + 1:], size)
            fewer = {}
            for total in list(left):
                for one in range(1, total + 1):
                    if has_bit(masks[at], one) and has_bit(behind, total - one):
                        ways = left[total] * self.ways(inner, atom, one)
                        fewer[total - one] = fewer.get(total - one, 0) + ways
            left = fewer
        return left.get(0, 0)

    def allow(self, limit):
        """Works out which sizes up to a limit programs can have, where it only counts which types are in scope."""
        if limit <= self._limit:
            return
        self._limit = limit
        questions = self._questions_within(limit)
        asked = {question: self._asked_by(question) for question in questions}
        askers = _askers(asked)
        possible = {}
        due = [question for question in questions if [] in asked[question]]
        while due:
            following = {}
            for question in due:
                found = _sizes_with(asked[question], possible, limit)
                if found != possible.get(question, 0):
                    possible[question] = found
                    for asker in askers[question]:
                        following[asker] = True
            due = list(following)
        self._possible = possible

    def _questions_within(self, limit):
        """The questions that come up in programs of at most so many nodes, each ahead of those that need it less."""
        first = (self._rows[self._first][1], self._goal.atom)
        found = {}
        due = {limit: [first]}
        # What a question leaves for its arguments is less than it has itself, so the most comes first.
        for left in range(limit, 0, -1):
            here = list(due.get(left, []))
            for question in here:
                if question in found:
                    continue
                found[question] = True
                for several in self._asked_by(question):
                    if 0 < len(several) < left:
                        due.setdefault(left - len(several), []).extend(several)
            if len(found) > MAX_TRIPLES:
                raise TooMany(MAX_TRIPLES)
        return list(found)

    def _asked_by(self, question):
        """For each choice of heads of a question the questions of its arguments."""
        bits, atom = question
        kinds = [kind for kind in self._kinds.heads_with(atom) if has_bit(bits, kind)]
        return [[(_with_bits(bits, added), asked) for added, asked in self._kinds.asks_of(kind)] for kind in kinds]


def _askers(asked):
    """For each question those that ask it."""
    askers = {question: [] for question in asked}
    for question in asked:
        for several in asked[question]:
            for one in several:
                if one in askers:
                    askers[one].append(question)
    return askers


def _with_bits(bits, added):
    for at in added:
        bits = bits | (1 << at)
    return bits


def joined_sizes(masks, limit):
    """The sizes that a row of programs can have together, where each has one of its sizes."""
    joined = 1
    for mask in masks:
        joined = sum_sizes(joined, mask, limit)
    return joined


def sum_sizes(one, other, limit):
    """The sums of two sizes that are not above a limit."""
    found = 0
    left = other if one else 0
    while left:
        lowest = left & -left
        found = found | one * lowest
        left = left - lowest
    return found & ((1 << (limit + 1)) - 1)


def _sizes_with(choices, possible, limit):
    """The sizes of programs with one of these choices of heads at the root."""
    found = 0
    for several in choices:
        found = found | (joined_sizes([possible.get(asked, 0) for asked in several], limit - 1) << 1)
    return found
