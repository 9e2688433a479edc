"""Values of every sort that an argument can have, and ways to compare them."""

from fromparts.ask.questions import Questions
from fromparts.base.libraries import Library
from fromparts.base.programs import Program
from fromparts.base.types import Type
from fromparts.count.listing import Listing
from fromparts.errors import InvalidNumber, InvalidWord
from fromparts.room.rooms import Room
from fromparts.text.shell import Shell
from fromparts.use.drafts import Draft
from fromparts.use.project import Project


def nested(depth):
    """Tuples, lists and dicts in turn, one in the other."""
    value = 1
    for level in range(depth):
        value = [(value, None), [value], {"a": value}][level % 3]
    return value


INTEGERS = [0, 1, -1, 7, 10 ** 59, 10 ** 60 - 1, 1 - 10 ** 60]
LONG_INTEGERS = [10 ** 60, -(10 ** 60), 10 ** 99, 10 ** 100 - 1, 1 - 10 ** 100]
BOOLEANS = [True, False]
WORDS = ["a", "z", "x", "cons", "abcdefgh", "zzzzzzzz"]
STRINGS = ["", " ", "\n", "a\n", "\na", "a b", "A", "aB", "a1", "1", "x0", "?", "a_b", "a-b", "abcdefghi", "a" * 9000,
           "`", "{", "a{", "(a)", "None", "\\"]
CONTAINERS = [(), ("a",), (1, 2), [], ["a"], [1, [2]], {}, {"a": "b"}, {1: [2], ("a", 1): None},
              nested(7), nested(8)]


def objects():
    return [Type.plain("a"), Type.read("a -> b"), InvalidWord("a"), InvalidNumber([1]), Library(),
            Library.read("f : a -> b"), Program(((0, "a", 0),)), Program.read("\\x0. f x0"),
            Room(((0,),), ((),)), Questions(Library(), Type.plain("a")), Listing(Library(), Type.plain("a"), 1),
            Draft(Library(), Type.read("a -> a")), Project(Library()), Project(Library()).block(), Shell(Library())]


def all_values():
    """One value of every sort, and edges of each."""
    return [None] + INTEGERS + LONG_INTEGERS + BOOLEANS + WORDS + STRINGS + CONTAINERS + objects()


def shown(value):
    """A short text of a value, for messages of tests."""
    return repr(value)[:60]


def same(one, other):
    """Whether two values are equal and of equal kinds, also within; True is not 1."""
    if one.__class__ is not other.__class__:
        return False
    if isinstance(one, (list, tuple)):
        return len(one) == len(other) and all([same(x, y) for x, y in zip(one, other)])
    if isinstance(one, dict):
        return list(one) == list(other) and all([same(one[name], other[name]) for name in one])
    return one == other
