"""Giving several trees as one tree, which takes what picks one of them."""

from fromparts.base.types import MAX_PLACES
from fromparts.put.trees import with_heads, with_picks

_ARROW = " -> "


def bundled_by_type(rows, far, numbers):
    """Rows of trees that are given, and the far tree that takes them, with one row for several of one type.

    The bundle takes a function that picks a value, and then what each of the trees takes.
    """
    heads = {}
    found = []
    for group in _groups_by_type(rows):
        if len(group) == 1:
            found.append(group[0])
            continue
        number = numbers.some(1)[0]
        picked = numbers.some(len(group))
        found.append((number, _text_by_type(group), _tree_by_type(group, numbers.some(1)[0])))
        for at, row in enumerate(group):
            heads[row[0]] = (number, ((picked, picked[at], ()),))
    return found, with_heads(far, heads)


def bundled_by_atom(rows, far, numbers):
    """Rows of trees that are given, and the far tree that takes them, with one row for several of one atom.

    The bundle takes a function that picks one of the trees, and does what it is needed for.
    """
    heads = {}
    found = []
    for group in _groups_by_atom(rows):
        if len(group) == 1:
            found.append(group[0])
            continue
        number, picking = numbers.some(2)
        picked = numbers.some(len(group))
        found.append((number, _text_by_atom(group), ((picking,), picking, tuple([tree for _, _, tree in group]))))
        for at, row in enumerate(group):
            heads[row[0]] = (number, picked, picked[at])
    return found, with_picks(far, heads)


def _groups_by_type(rows):
    """The rows with equal texts of types together, as far as the type of the bundle is not too large."""
    groups = {}
    for row in rows:
        groups.setdefault(row[1], []).append(row)
    found = []
    for text in groups:
        most = max(1, MAX_PLACES - 1 - _places_of(text))
        found.extend([groups[text][at:at + most] for at in range(0, len(groups[text]), most)])
    return found


def _groups_by_atom(rows):
    """The rows with equal atoms of types together, as far as the type of the bundle is not too large."""
    groups = {}
    found = []
    for row in rows:
        atom = _atom_of(row[1])
        group = groups.get(atom, [])
        many = sum([_places_of(text) for _, text, _ in group]) + _places_of(row[1])
        if not group or many + 2 > MAX_PLACES:
            group = []
            groups[atom] = group
            found.append(group)
        group.append(row)
    return found


def _places_of(text):
    return text.count(_ARROW) + 1


def _atom_of(text):
    """The atom of the type with this text."""
    return text.rpartition(_ARROW)[2]


def _text_by_type(group):
    text = group[0][1]
    return f"({_ARROW.join([_atom_of(text)] * (len(group) + 1))}){_ARROW}{text}"


def _tree_by_type(group, picking):
    """The tree of a bundle in which all trees bind the same variables."""
    binders = group[0][2][0]
    below = []
    for _, _, (bound, head, inner) in group:
        same = {one: (binders[at], ()) for at, one in enumerate(bound)}
        below.append(with_heads(((), head, inner), same))
    return (picking,) + binders, picking, tuple(below)


def _text_by_atom(group):
    atom = _atom_of(group[0][1])
    texts = [f"({text})" if _ARROW in text else text for _, text, _ in group]
    return f"({_ARROW.join(texts + [atom])}){_ARROW}{atom}"
