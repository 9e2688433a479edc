"""Cutting a program in two.

Each node and each variable is on one of two sides: a part is on its own one, and a variable on that of the goal at
which it is bound; the goal of the whole program is far, and the goals of the arguments of a head are on its side.
Where a head is on the other side than its goal, this one gives a tree of a type all of whose atoms are shared, and
takes trees for it in turn. What is given stands in a region, and is taken from there as often as it is needed.
"""

from fromparts.base.nodes import end_of, level_of, places_below
from fromparts.base.words import is_variable
from fromparts.put.trees import Numbers, free_variables, nodes_of_tree

FAR = 0
NEAR = 1

_ARROW = " -> "


class Region:
    """What one side gives to the other one, where it knows some variables, and takes from other regions itself."""

    def __init__(self, known, outer, joins):
        self._known = known
        self._outer = outer
        self._joins = joins
        self._numbers = {}
        self._rows = []

    def rows(self):
        """For each tree that is given its number, the text of its type, and the tree."""
        return list(self._rows)

    def gives(self, number):
        return any([number == row[0] for row in self._rows])

    def can_give(self, nodes):
        """Whether all variables that these nodes need are known here."""
        return all([one in self._known or any([region.gives(one) for region in self._outer])
                    for one in free_variables(nodes)])

    def number_of(self, text, tree, nodes, numbers):
        """The number of a tree that is given, which is the same one for equal trees if these are joined."""
        if not self._joins or (text, nodes) not in self._numbers:
            number = numbers.some(1)[0]
            self._numbers[(text, nodes)] = number
            self._rows.append((number, text, tree))
        return self._numbers[(text, nodes)]


class Cutting:
    """A program of which some parts are near, cut in one of several ways.

    `told` has for each node its type and those in its scope. Near heads take what has a type with one of the texts
    `loose` from the far side, also where it could be near, and if `is_strict` only where it has no near variables of
    those around it; its atoms are shared. `lifts` tells for each side whether what is given to it is given as far out
    as can be, and `joins` whether equal trees are given to it once.
    """

    def __init__(self, nodes, told, near, loose, is_strict, lifts, joins):
        self._nodes = nodes
        self._below = places_below(nodes)
        self._kinds = [wanted for wanted, _ in told]
        self._near = near
        self._loose = loose
        self._is_strict = is_strict
        self._lifts = lifts
        self._joins = joins
        self._numbers = Numbers()
        self._sides = {}
        # For each place the side of its goal, that of its head, and the numbers of the variables in scope.
        self._rows = []
        self._tell_sides()
        self._region = Region({}, (), joins[FAR])
        self._far = self._tree_at(0, ((self._region,), ()))

    def numbers(self):
        return self._numbers

    def far_tree(self):
        """The far tree of the whole program."""
        return self._far

    def rows(self):
        """What is near: for each tree its number, the text of its type, and the tree."""
        return self._region.rows()

    def _tell_sides(self):
        due = [(FAR, ())]
        for place, (binders, head, _) in enumerate(list(self._nodes)):
            side, above = due.pop()
            bound = self._numbers.some(binders)
            for one in bound:
                self._sides[one] = side
            scope = above + bound
            head_side = self._sides[scope[level_of(head)]] if is_variable(head) else self._side_of_part(head)
            self._rows.append((side, head_side, scope))
            asked = self._below[place]
            due.extend([(self._side_below(at, head_side, scope), scope) for at in asked[::-1]])

    def _side_of_part(self, part):
        return NEAR if part in self._near else FAR

    def _side_below(self, place, head_side, scope):
        """The side of an argument of a head."""
        if head_side == FAR or self._kinds[place].text not in self._loose:
            return head_side
        if not self._is_strict:
            return FAR
        heads = [head for _, head, _ in self._nodes[place:end_of(self._nodes, place)] if is_variable(head)]
        outer = [scope[level_of(head)] for head in heads if level_of(head) < len(scope)]
        return NEAR if any([self._sides[one] == NEAR for one in outer]) else FAR

    def _tree_at(self, place, given):
        """The tree of a place on the side of its goal; `given` has for each side the regions, the innermost last."""
        side, head_side, scope = self._rows[place]
        binders, head, _ = self._nodes[place]
        bound = scope[len(scope) - binders:]
        named = scope[level_of(head)] if is_variable(head) else head
        if head_side == side:
            return bound, named, tuple([self._argument(at, side, given) for at in self._below[place]])
        inner = self._region_at(scope, side, head_side, given)
        opened = _with_region(given, head_side, inner)
        below = tuple([self._argument(at, head_side, opened) for at in self._below[place]])
        rows = inner.rows()
        tree = tuple([row[0] for row in rows]), named, below
        number = self._given_number(side, given, _text_of([row[1] for row in rows], self._kinds[place].atom), tree)
        return bound, number, tuple([row[2] for row in rows])

    def _argument(self, place, side, given):
        """The tree of an argument of a head on a side."""
        if self._rows[place][0] == side:
            return self._tree_at(place, given)
        wanted = self._kinds[place]
        other, _, scope = self._rows[place]
        inner = self._region_at(scope[:len(scope) - len(wanted.inputs)], side, other, given)
        bound, head, below = self._tree_at(place, _with_region(given, other, inner))
        rows = inner.rows()
        tree = tuple([row[0] for row in rows]) + bound, head, below
        text = _text_of([row[1] for row in rows] + [one.text for one in wanted.inputs], wanted.atom)
        number = self._given_number(side, given, text, tree)
        binders, _, own = self._numbers.own_tree(wanted, number)
        return binders, number, tuple([row[2] for row in rows]) + own

    def _region_at(self, scope, side, other, given):
        """A region of what a side gives to the other one with these variables in scope."""
        return Region({one: True for one in scope if self._sides[one] == side}, given[side], self._joins[other])

    def _given_number(self, side, given, text, tree):
        """The number of a tree that the other side gives to this one."""
        nodes = nodes_of_tree(tree, {}, 0)
        regions = given[side] if self._lifts[side] else given[side][-1:]
        able = [region for region in regions if region.can_give(nodes)]
        return able[0].number_of(text, tree, nodes, self._numbers)


def _with_region(given, side, region):
    """The regions with one more for a side."""
    far, near = given
    return (far + (region,), near) if side == FAR else (far, near + (region,))


def _text_of(texts, atom):
    """The text of the type with arguments of these texts, which can be too large for a type."""
    return _ARROW.join([f"({text})" if _ARROW in text else text for text in texts] + [atom])
