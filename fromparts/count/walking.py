"""Ways through the programs of one size, node by node in the order of the nodes."""

from fromparts.base.bits import has_bit
from fromparts.base.words import VARIABLE
from fromparts.count.tally import sum_sizes


class Due:
    """A row of programs that are still due: the first one, of a type in a scope, and those behind it.

    `above` are the types of the variables that are bound above the first one, and `around` is the number of the scope
    there. An empty row is None.
    """

    def __init__(self, tally, wanted, above, around, behind):
        self._tally = tally
        self._wanted = wanted
        self._scope = above + wanted.inputs
        self._number = tally.wider_by(around, wanted.inputs)
        self._behind = behind
        self._sizes = sum_sizes(tally.sizes(self._number, wanted.atom), sizes_of(behind), tally.most_nodes())
        self._known = {}

    def binders(self):
        """How many variables the first program binds."""
        return len(self._wanted.inputs)

    def sizes_bits(self):
        """The sizes that the programs can have together, as bits."""
        return self._sizes

    def heads(self, library):
        """The heads that the first program can have with their types, in the order of strings."""
        parts = [(name, library[name]) for name in library.heads(self._wanted.atom)]
        variables = [(f"{VARIABLE}{level}", kind) for level, kind in enumerate(self._scope)
                     if kind.atom == self._wanted.atom]
        kinds = {head: kind for head, kind in parts + variables}
        return [(head, kinds[head]) for head in sorted(kinds)]

    def behind_head(self, kind):
        """What is due behind a head of this type: its arguments, and then what is due behind the first program."""
        row = self._behind
        for wanted in kind.inputs[::-1]:
            row = Due(self._tally, wanted, self._scope, self._number, row)
        return row

    def many(self, total):
        """In how many ways the programs can have so many nodes together."""
        if not has_bit(self._sizes, total):
            return 0
        if total not in self._known:
            bits = self._tally.sizes(self._number, self._wanted.atom)
            behind = sizes_of(self._behind)
            sizes = [one for one in range(1, total + 1) if has_bit(bits, one) and has_bit(behind, total - one)]
            ways = [self._tally.ways(self._number, self._wanted.atom, one) * many_of(self._behind, total - one)
                    for one in sizes]
            self._known[total] = sum(ways)
        return self._known[total]


def sizes_of(row):
    """The sizes, as bits, that the programs of a row can have together."""
    return 1 if row is None else row.sizes_bits()


def many_of(row, total):
    """In how many ways the programs of a row can have so many nodes together."""
    if row is None:
        return 1 if total == 0 else 0
    return row.many(total)


def all_due(tally, goal):
    """The row with just one program of the goal."""
    return Due(tally, goal, (), tally.outer_scope(), None)


def nodes_with(tally, library, goal, size, rank):
    """The nodes of the program with this rank among those of a size, of which there are more."""
    nodes = []
    row = all_due(tally, goal)
    for left in range(size - 1, -1, -1):
        binders = row.binders()
        rows = _rows_behind(row, library)
        for head, many_arguments, behind in rows:
            ways = many_of(behind, left)
            if rank < ways:
                nodes.append((binders, head, many_arguments))
                row = behind
                break
            rank -= ways
    return tuple(nodes)


def rank_within(tally, library, goal, nodes):
    """The number of programs of the same size with lesser nodes."""
    rank = 0
    row = all_due(tally, goal)
    for at, node in enumerate(nodes):
        rows = _rows_behind(row, library)
        left = len(nodes) - at - 1
        rank += sum([many_of(behind, left) for head, _, behind in rows if head < node[1]])
        row = [behind for head, _, behind in rows if head == node[1]][0]
    return rank


def rows_in_order(tally, library, goal, size):
    """A generator: the nodes of all programs of a size, in order."""
    due = [((), all_due(tally, goal), size)]
    while due:
        nodes, row, left = due.pop()
        if row is None and left == 0:
            yield nodes
        elif row is not None and has_bit(row.sizes_bits(), left):
            binders = row.binders()
            rows = _rows_behind(row, library)
            due.extend([(nodes + ((binders, head, many),), behind, left - 1) for head, many, behind in rows[::-1]])


def _rows_behind(row, library):
    """For each head that can come next how many arguments it has, and what is due behind it."""
    heads = row.heads(library)
    kinds = {kind.text: kind for _, kind in heads}
    behind = {text: row.behind_head(kinds[text]) for text in kinds}
    return [(head, len(kind.inputs), behind[kind.text]) for head, kind in heads]
