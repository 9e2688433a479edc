"""Loops: questions that come up within themselves, and programs in which they do.

Here `whole` is a dict from answered questions to their choices with answered subquestions only, and `costs` has the
least numbers of nodes of their programs.
"""

from heapq import heappop, heappush

from fromparts.ask.asking import asked_by, cost_of, least_ranks
from fromparts.base.programs import MAX_NODES


def loop_free_ranks(whole, usable):
    """The usable questions that come to an end by all choices, with ranks greater than those of what they ask."""
    # One choice that asks all that the choices ask has a rank exactly if all of it comes to an end.
    return least_ranks({question: (("", tuple(asked_by(whole[question]))),) for question in usable})


def short_loops(whole, usable, costs, first):
    """For each question within itself the spine of a least program with its loop, by ascending numbers of nodes.

    A loop is a tuple of the number of nodes, the question, the spine from the first question to it, and the spine
    from there to where it comes up again. Those with too many nodes are left out.
    """
    ways = nearest(whole, costs, [(0, first, ())])
    found = []
    for question in usable:
        if question in ways:
            # A scope only gets wider, so a question comes up again by questions of its own scope only.
            level = {one: whole[one] for one in usable if one[0] == question[0]}
            back = nearest(level, costs, _steps(level, costs, 0, question, ()))
            if question in back:
                nodes = ways[question][0] + back[question][0] + costs[question]
                found.append((nodes, question, ways[question][1], back[question][1]))
    return [loop for loop in sorted(found) if loop[0] <= MAX_NODES]


def nearest(whole, costs, begun):
    """The questions that are come to with their least numbers of nodes beside them, and the spines there."""
    queue = sorted(begun)
    found = {}
    while queue:
        cost, question, spine = heappop(queue)
        if question not in found and question in whole and cost <= MAX_NODES:
            found[question] = (cost, spine)
            following = _steps(whole, costs, cost, question, spine)
            for step in following:
                heappush(queue, step)
    return found


def _steps(whole, costs, cost, question, spine):
    """The subquestions of a question, with the nodes that stand beside each."""
    return [(cost + cost_of(choice, costs) - costs[asked], asked, spine + ((choice[0], at),))
            for choice in whole[question] for at, asked in enumerate(choice[1])]
