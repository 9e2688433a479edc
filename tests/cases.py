"""What the tests of several modules share: how an error is expected, values that are none of a kind, and samples."""

import inspect
import random
import unittest

from fromparts.base.libraries import Library
from fromparts.base.types import Type
from values import all_values, shown


class Case(unittest.TestCase):
    def refused(self, error, call, *arguments, **more):
        """That a call raises just this class of errors; the error."""
        with self.assertRaises(error, msg=shown(arguments)) as caught:
            call(*arguments, **more)
        self.assertIs(caught.exception.__class__, error, shown(arguments))
        return caught.exception

    def parameters(self, call):
        return list(inspect.signature(call).parameters)


def others(kind):
    """Values of all sorts that are not of this kind."""
    return [value for value in all_values() if not isinstance(value, kind)]


def not_sizes(last):
    """Values that are no integers from 0 to this one."""
    values = all_values() + [-1, last + 1]
    return [value for value in values if value.__class__ is not int or not 0 <= value <= last]


def not_words():
    return [value for value in all_values() if not isinstance(value, str)] + ["", "A", "a1", "abcdefghi", "a\n", "x0"]


def some_type(rand, places, order, atoms):
    """A type with at most so many places, and at most of this order."""
    inputs = []
    left = places - 1
    while left > 0 and order > 0 and rand.random() < 0.8:
        many = 1 if order == 1 else rand.randint(1, left)
        inputs.append(some_type(rand, many, order - 1, atoms))
        left -= len(inputs[-1])
    return Type(tuple(inputs), rand.choice(atoms))


def some_library(rand, parts, places, order, atoms):
    return Library({name: some_type(rand, places, order, atoms) for name in "fghkpqrs"[:parts]})


def random_goals(seed, many, parts=4, places=5, order=3, atoms="abc"):
    """Pairs of libraries and goals, the same ones for the same seed."""
    rand = random.Random(seed)
    return [(some_library(rand, rand.randint(0, parts), places, order, atoms),
             some_type(rand, rand.randint(1, places), order - 1, atoms)) for _ in range(many)]


NAT = Library.read("s : n -> n", "z : n")
PIPE = Library.read("f : a -> b", "g : b -> c")
CONT = Library.read("k : (a -> b) -> c", "x : b")
TWO = Library.read("z : n", "y : n", "p : n -> n -> n")
LAMBDA = Library.read("app : a -> a -> a", "lam : (a -> a) -> a")

GOALS = [(NAT, "n"), (NAT, "n -> n"), (NAT, "(n -> n) -> n"), (PIPE, "a -> c"), (PIPE, "c"), (PIPE, "n"),
         (CONT, "c"), (CONT, "(a -> b) -> c"), (CONT, "a"), (TWO, "n"), (TWO, "n -> n -> n"), (LAMBDA, "a"),
         (LAMBDA, "a -> a"), (Library(), "a"), (Library(), "a -> a"), (Library(), "a -> a -> a"),
         (Library(), "((a -> b) -> a) -> a"), (Library(), "(((a -> b) -> a) -> a) -> b"),
         (Library.read("f : (((a -> b) -> a) -> a) -> b"), "b"), (Library(), "(a -> b) -> (b -> c) -> a -> c"),
         (Library.read("f : a -> a", "g : (a -> a) -> a"), "a"),
         (Library.read("f : (b -> a) -> (b -> a) -> a", "g : b -> a", "h : b -> b -> a"), "a"),
         (Library.read("f : (b -> a) -> c", "g : b -> b -> a", "h : c -> d", "k : c -> c -> d"), "b -> d"),
         (Library.read("f : (b -> b -> a) -> a", "g : (c -> a) -> a", "h : b -> c -> a"), "a"),
         (Library.read("f : ((a -> b) -> b) -> c", "g : a", "h : a"), "c"),
         (Library.read("f : ((a -> b) -> b) -> a", "g : (a -> b) -> b"), "a -> b")]


def sample_goals():
    return [(library, Type.read(text)) for library, text in GOALS]
