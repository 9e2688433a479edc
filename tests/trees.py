"""Types as plain trees (inputs, atom), and what the document says of them, told apart from the program."""

import re

from fromparts.base.types import Type

WORD = "[a-z]{1,8}"
PLACE = f"(?:{WORD}|#)"
GROUP = re.compile(rf"\((?:{PLACE} -> )+{WORD}\)")
WHOLE = re.compile(rf"(?:{PLACE} -> )*{WORD}")

FIFTEEN = " -> ".join(["a"] * 15)
ORDER_FOUR = "(((a -> b) -> c) -> d) -> e"
SAMPLE = ["a", "abcdefgh", "a -> a", "b -> a", "a -> b -> c", "(a -> b) -> c", "(a -> b) -> a -> c",
          "a -> (b -> a) -> a", "((a -> b) -> a) -> a", "(a -> b) -> (a -> b) -> b", "((a -> b) -> c) -> d -> e",
          "(a -> (b -> c) -> d) -> e", ORDER_FOUR, FIFTEEN, "(((z -> y) -> x -> z) -> (w -> z) -> z) -> y -> z"]


def built(tree):
    """The type of a tree."""
    return Type(tuple([built(one) for one in tree[0]]), tree[1])


def text_of(tree):
    pieces = ["(" + text_of(one) + ")" if one[0] else one[1] for one in tree[0]]
    return " -> ".join(pieces + [tree[1]])


def places_of(tree):
    return [word for one in tree[0] for word in places_of(one)] + [tree[1]]


def order_of(tree):
    return 1 + max([order_of(one) for one in tree[0]]) if tree[0] else 0


def parts_of(tree):
    return [tree] + [part for one in tree[0] for part in parts_of(one)]


def signed(tree, sign=True):
    """The pairs of the signs and atoms of the places."""
    return {(sign, tree[1])} | {pair for one in tree[0] for pair in signed(one, not sign)}


def atoms_with(tree, sign):
    return tuple(sorted([word for told, word in signed(tree) if told == sign]))


def with_names(tree, names):
    return tuple([with_names(one, names) for one in tree[0]]), names[tree[1]]


def with_put(tree, atom, other):
    inputs = tuple([with_put(one, atom, other) for one in tree[0]])
    return (inputs + other[0], other[1]) if tree[1] == atom else (inputs, tree[1])


def is_small(tree):
    return len(places_of(tree)) <= 15 and order_of(tree) <= 4


def trees(places, atoms):
    """All trees with just so many places."""
    return [(row, atom) for row in rows_of(places - 1, atoms) for atom in atoms]


def rows_of(places, atoms):
    """All tuples of trees with just so many places in all."""
    if places == 0:
        return [()]
    found = []
    for many in range(1, places + 1):
        for first in trees(many, atoms):
            found.extend([(first,) + rest for rest in rows_of(places - many, atoms)])
    return found


def small_trees():
    """All trees of up to five places over two atoms, and of six over one."""
    found = [tree for places in range(1, 6) for tree in trees(places, "ab")]
    return [tree for tree in found + trees(6, "a") if is_small(tree)]


def is_text(text):
    """Whether this is the text of a type: arguments in parentheses become a sign, from within."""
    if "#" in text or len(re.findall("[a-z]+", text)) > 15:
        return False
    order = 1 if " -> " in text else 0
    while "(" in text and order <= 4:
        fewer = GROUP.sub("#", text)
        if fewer == text:
            return False
        text, order = fewer, order + 1
    return order <= 4 and WHOLE.fullmatch(text) is not None
