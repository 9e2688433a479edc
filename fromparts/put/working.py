"""Working out what comes of putting programs in the place of variables and of parts, node by node from the root.

Nothing is worked out ahead of the node at which it stands, so what does not stand in the result costs nothing, and
each node that is told is a node of the result.
"""

from fromparts.base.nodes import level_of, places_below
from fromparts.base.programs import MAX_NODES
from fromparts.base.words import VARIABLE, is_variable
from fromparts.errors import TooMany


class Source:
    """The nodes of a program, in which other programs stand in the place of some parts."""

    def __init__(self, nodes, puts):
        self._nodes = nodes
        self._below = places_below(nodes)
        self._puts = puts

    def binders(self, place):
        return self._nodes[place][0]

    def below(self, place):
        """The places of the arguments of a node."""
        return self._below[place]

    def head_with(self, place, held):
        """What stands at a head: a spot, the level of a variable of the result, or a part."""
        head = self._nodes[place][1]
        if is_variable(head):
            return held[level_of(head)]
        return self._puts.get(head, head)


class Spot:
    """A place of a source, with what stands there for each variable that is bound above the place."""

    def __init__(self, source, place, held):
        self.source = source
        self.place = place
        self.held = held


class Result:
    """The nodes that come of what stands at a spot, for which so many heads can be worked out."""

    def __init__(self, spot, most):
        self._due = [(spot, 0)]
        self._most = most
        self._work = 0

    def is_done(self):
        """Whether all nodes have been told."""
        return not self._due

    def next_node(self):
        """The next node in preorder."""
        spot, level = self._due.pop()
        binders = spot.source.binders(spot.place)
        inner = Spot(spot.source, spot.place, spot.held + tuple(range(level, level + binders)))
        head, below = self._worked_out(inner)
        self._due.extend([(one, level + binders) for one in below[::-1]])
        return binders, head if isinstance(head, str) else f"{VARIABLE}{head}", len(below)

    def _worked_out(self, spot):
        """The head that comes to stand at a spot whose variables are bound, and its arguments."""
        while True:
            self._work += 1
            if self._work > self._most:
                raise TooMany(self._most)
            source = spot.source
            below = tuple([Spot(source, place, spot.held) for place in source.below(spot.place)])
            head = source.head_with(spot.place, spot.held)
            if not isinstance(head, Spot):
                return head, below
            # What is put in binds just as many variables as the head has arguments.
            spot = Spot(head.source, head.place, head.held + below)


def put_into(program, puts):
    """The spot at which a program stands, with others in the place of parts."""
    return Spot(Source(program.nodes, {name: _root_of(puts[name]) for name in puts}), 0, ())


def _root_of(program):
    return Spot(Source(program.nodes, {}), 0, ())


def applied_to(program, programs):
    """The spot at which a program stands, with others in the place of the first variables that it binds."""
    binders, head, many = program.nodes[0]
    nodes = ((binders - len(programs), head, many),) + program.nodes[1:]
    return Spot(Source(nodes, {}), 0, tuple([_root_of(one) for one in programs]))


def result_nodes(spot, most):
    """The nodes that come of what stands at a spot, if they are not too many."""
    result = Result(spot, most)
    nodes = []
    while not result.is_done():
        if len(nodes) == MAX_NODES:
            raise TooMany(MAX_NODES)
        nodes.append(result.next_node())
    return tuple(nodes)


def comes_to(spot, nodes, most):
    """Whether just these nodes come of what stands at a spot."""
    result = Result(spot, most)
    for node in nodes:
        # Where the nodes differ, what comes behind them need not be worked out.
        if result.is_done() or result.next_node() != node:
            return False
    return result.is_done()
