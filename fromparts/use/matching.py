"""Nodes with gaps of one goal, beside one another: both trees are gone through from the root."""

from fromparts.base.nodes import end_of
from fromparts.base.words import GAP


def are_within(nodes, wide):
    """Whether nodes come of others by filling gaps."""
    at = 0
    for node in wide:
        if node[1] == GAP:
            at = end_of(nodes, at)
        elif nodes[at] != node:
            return False
        else:
            at += 1
    return True


def common_nodes(one, other):
    """The nodes of which just those come that come of both, or None if there are none."""
    nodes = ()
    at = beside = 0
    while at < len(one):
        end, end_beside = end_of(one, at), end_of(other, beside)
        if one[at][1] == GAP:
            nodes = nodes + other[beside:end_beside]
        elif other[beside][1] == GAP:
            nodes = nodes + one[at:end]
        elif one[at] == other[beside]:
            nodes = nodes + (one[at],)
            end, end_beside = at + 1, beside + 1
        else:
            return None
        at, beside = end, end_beside
    return nodes


def wider_nodes(one, other):
    """The nodes with a gap at each outermost place at which they are unlike."""
    nodes = ()
    at = beside = 0
    while at < len(one):
        if one[at] == other[beside]:
            nodes = nodes + (one[at],)
            at, beside = at + 1, beside + 1
        else:
            nodes = nodes + ((one[at][0], GAP, 0),)
            at, beside = end_of(one, at), end_of(other, beside)
    return nodes
