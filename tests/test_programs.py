import copy
import itertools
import random
import re
import unittest

from fromparts.base import programs
from fromparts.base.libraries import Library
from fromparts.base.programs import MAX_NODES, Program, is_program, question_at, scope_at, type_at
from fromparts.base.types import Type
from fromparts.errors import (InvalidLibrary, InvalidNumber, InvalidOperation, InvalidProgram, InvalidType, ParseError)
from cases import CONT, NAT, Case, not_sizes, others, random_goals, sample_goals
from search import programs_upto, questions_in, told, tree
from trees import text_of
from values import all_values, same

ONE = ((1, "k", 2), (1, "x0", 1), (0, "x1", 0), (0, "y", 0))
GOAL = Type.read("a -> c")
ROOM = Library.read("k : (b -> b) -> b -> c", "y : b")


def chain(binders, many):
    """Nodes one below the other, each with so many variables."""
    return tuple([(binders, "k", 1)] * (many - 1) + [(binders, "y", 0)])


def node_rows(most):
    """All tuples of up to so many nodes over a few nodes, most of which make no program."""
    nodes = [(0, "a", 0), (0, "a", 1), (1, "b", 2), (0, "x0", 0), (1, "x0", 1), (2, "x1", 0), (0, "x2", 1)]
    return [row for many in range(most + 1) for row in itertools.product(nodes, repeat=many)]


def plain_end(nodes, place, bound):
    """The place behind a tree that begins at a place, or None if there is none, told apart from the program."""
    if place >= len(nodes):
        return None
    binders, head, many = nodes[place]
    inner = bound + binders
    if head[0] == "x" and len(head) > 1 and int(head[1:]) >= inner:
        return None
    place += 1
    for _ in range(many):
        place = plain_end(nodes, place, inner)
        if place is None:
            return None
    return place


def plain_text(nodes, place=0, bound=0):
    """The text of the tree at a place, and the place behind it."""
    binders, head, many = nodes[place]
    texts = [head]
    place += 1
    for _ in range(many):
        text, behind = plain_text(nodes, place, bound + binders)
        texts.append(f"({text})" if nodes[place][0] or nodes[place][2] else text)
        place = behind
    front = "\\" + " ".join(f"x{bound + at}" for at in range(binders)) + ". " if binders else ""
    return front + " ".join(texts), place


def good_rows():
    return [row for row in node_rows(4) if plain_end(row, 0, 0) == len(row)] + [ONE, ((0, "abcdefgh", 0),)]


def sample_programs():
    """Libraries, goals, and all small programs of them."""
    return [(library, goal, [Program(nodes) for nodes in programs_upto(library, goal, 5)[:12]])
            for library, goal in sample_goals() + random_goals(4, 40)]


class Interface(Case):
    def test_constant(self):
        self.assertTrue(same(MAX_NODES, 40))

    def test_names_and_parameters(self):
        for call, parameters in [(Program, ["nodes"]), (is_program, ["library", "goal", "value"]),
                                 (type_at, ["library", "goal", "program", "place"]),
                                 (scope_at, ["library", "goal", "program", "place"]),
                                 (question_at, ["library", "goal", "program", "place"])]:
            self.assertEqual(call.__module__, "fromparts.base.programs")
            self.assertIs(getattr(programs, call.__name__), call)
            self.assertEqual(self.parameters(call), parameters)
        one = Program(ONE)
        for name, parameters in [("read", ["text"]), ("arguments", ["place"]), ("bound", ["place"]),
                                 ("way_to", ["place"]), ("end", ["place"]), ("renamed", ["names"]),
                                 ("comes_ahead", ["other"])]:
            self.assertEqual(self.parameters(getattr(one, name)), parameters)

    def test_methods_stand_in_the_class_itself(self):
        for name in ["read", "nodes", "text", "size", "parts", "counts", "arguments", "bound", "way_to", "end",
                     "renamed", "__getitem__", "__len__", "__iter__", "__contains__", "__eq__", "comes_ahead",
                     "__str__"]:
            self.assertIn(name, vars(Program))

    def test_example(self):
        one = Program.read("\\x0. k (\\x1. x0 x1) y")
        told_of = [one.nodes, one.size, one.parts, one.arguments(0), one.bound(2), one.way_to(3), str(one)]
        self.assertTrue(same(told_of, [((1, "k", 2), (1, "x0", 1), (0, "x1", 0), (0, "y", 0)), 4, ("k", "y"), (1, 3),
                                       2, (0, 3), "\\x0. k (\\x1. x0 x1) y"]))


class Making(Case):
    def test_which_rows_make_programs(self):
        for row in node_rows(4):
            if plain_end(row, 0, 0) == len(row):
                self.assertTrue(same(Program(row).nodes, row))
            else:
                self.refused(InvalidProgram, Program, row)

    def test_what_is_no_tuple_of_nodes(self):
        wrong = all_values() + [list(ONE), [ONE], (ONE,), ((0, "a"),), ((0, "a", 0, 0),), ([0, "a", 0],), ("a",),
                                ((0, "a", 0), None), (0, "a", 0), {0: (0, "a", 0)}]
        for value in wrong:
            self.refused(InvalidProgram, Program, value)

    def test_what_is_no_node(self):
        for value in all_values():
            if not same(value, 0):
                self.refused(InvalidProgram, Program, ((0, "a", value),))
            if value.__class__ is not int or not 0 <= value <= 15:
                self.refused(InvalidProgram, Program, ((value, "a", 0),))
            if value not in ["a", "z", "x", "cons", "abcdefgh", "zzzzzzzz"]:
                self.refused(InvalidProgram, Program, ((0, value, 0),))

    def test_heads(self):
        for head in ["x00", "x01", "X0", "x-1", "x100", "x1 ", "?", "x0a", "abcdefghi"]:
            self.refused(InvalidProgram, Program, ((15, head, 0),))
        self.assertEqual(Program(((0, "x", 0),)).parts, ("x",))

    def test_fifteen_binders_and_arguments(self):
        leaf = ((0, "a", 0),)
        self.assertEqual(Program(((15, "x14", 15),) + leaf * 15).size, 16)
        self.refused(InvalidProgram, Program, ((16, "a", 0),))
        self.refused(InvalidProgram, Program, ((-1, "a", 0),))
        self.refused(InvalidProgram, Program, ((0, "a", 16),) + leaf * 16)
        self.refused(InvalidProgram, Program, ((15, "x15", 0),))

    def test_forty_nodes_and_forty_one(self):
        self.assertEqual(len(Program(chain(0, 40))), 40)
        self.refused(InvalidProgram, Program, chain(0, 41))
        self.refused(InvalidProgram, Program, chain(0, 4000))
        self.refused(InvalidProgram, Program, ())

    def test_a_hundred_variables_and_more(self):
        self.assertEqual(Program(chain(10, 10)).bound(9), 90)
        self.refused(InvalidProgram, Program, chain(10, 9)[:-1] + ((11, "k", 1), (0, "y", 0)) + ((0, "y", 0),))
        self.refused(InvalidProgram, Program, chain(10, 10)[:-1] + ((11, "y", 0),))
        self.refused(InvalidProgram, Program, chain(10, 11))
        last = chain(10, 10)[:-1]
        self.assertEqual(Program(last + ((10, "x99", 0),)).nodes[9], (10, "x99", 0))
        self.refused(InvalidProgram, Program, last + ((9, "x99", 0),))
        # Beside one another, and not on one way, there can be more variables.
        wide = ((0, "k", 10),) + ((15, "x14", 0),) * 10
        self.assertEqual(Program(wide).size, 11)


class Texts(Case):
    def test_text_and_read(self):
        for row in good_rows():
            text = plain_text(row)[0]
            self.assertTrue(same([Program(row).text, str(Program(row))], [text, text]))
            self.assertTrue(same(Program.read(text).nodes, row))

    def test_long_texts(self):
        for row in [chain(0, 40), chain(10, 10), ((0, "k", 10),) + ((15, "x14", 0),) * 10,
                    ((15, "x14", 15),) + ((0, "a", 0),) * 15]:
            self.assertEqual(Program(row).text, plain_text(row)[0])
            self.assertEqual(Program.read(plain_text(row)[0]).nodes, row)
        self.refused(ParseError, Program.read, plain_text(chain(0, 41))[0])
        self.refused(ParseError, Program.read, plain_text(chain(10, 11))[0])
        self.refused(ParseError, Program.read, plain_text(((16, "a", 0),))[0])
        self.refused(ParseError, Program.read, plain_text(((0, "a", 16),) + ((0, "a", 0),) * 16)[0])

    def test_texts_of_no_program(self):
        wrong = ["", " ", "a ", " a", "a  b", "(a)", "a (b)", "a (\\x0. b) ", "\\x1. a", "\\x0 x0. a", "\\x0.a",
                 "\\x0 . a", "\\ x0. a", "\\. a", "\\x0. ", "\\x0.", "\\x0", "\\", ".", "a.", "a \\x0. b", "x0",
                 "\\x0. x1", "a (b", "a b)", "a (b))", "a ((b c))", "(a b)", "(\\x0. a)", "\\x0. (a b)", "a(b c)",
                 "a (b c)d", "a\nb", "a\tb", "A", "a1", "?", "a ?", "\\a. b", "\\x0. \\x1. a", "\\x0. a (\\x0. b)",
                 "a (\\x1. b)", "()", "a ()", "( a b)", "a ( b c)", "a (b c )", "\\x00. a", "abcdefghi", "(" * 4000,
                 "a (" * 3000, "a (b" + " (b" * 60 + ")" * 61, "\\" * 100, "\\x0 x1. a (\\x3. b)", "a )", ")", "a \\"]
        for text in wrong + others(str):
            self.assertIs(self.refused(ParseError, Program.read, text).line, None)

    def test_all_short_texts(self):
        every = {plain_text(row)[0] for row in node_rows(4) if plain_end(row, 0, 0) == len(row)}
        pieces = ["\\x0", "\\", ". ", "x0", "x1", "(", ")", " ", "a"]
        plain = re.compile("[a-z]+( [a-z]+)*")
        for many in range(1, 6):
            for row in itertools.product(pieces, repeat=many):
                text = "".join(row)
                try:
                    found = Program.read(text).text
                except ParseError:
                    self.assertNotIn(text, every)
                    self.assertIsNone(plain.fullmatch(text))
                else:
                    self.assertEqual(found, text)

    def test_read_by_keyword(self):
        self.assertEqual(Program.read(text="a b").nodes, Program(nodes=((0, "a", 1), (0, "b", 0))).nodes)


class Telling(Case):
    def test_properties(self):
        for row in good_rows():
            one = Program(row)
            words = [head for _, head, _ in row if not re.fullmatch("x[0-9]+", head)]
            self.assertTrue(same([one.size, len(one), list(one)], [len(row), len(row), list(row)]))
            self.assertTrue(same(one.parts, tuple(sorted(set(words)))))
            self.assertTrue(same(one.counts, {word: words.count(word) for word in sorted(set(words))}))
            for value in ["a", "b", "k", "x0", "", "ab", None, 1, ["a"], {}, ("a",)] + all_values():
                self.assertIs(value in one, isinstance(value, str) and value in words)

    def test_places(self):
        for row in good_rows():
            one = Program(row)
            self.assertTrue(same(one.way_to(0), (0,)))
            for place in range(len(row)):
                self.assertTrue(same(one[place], row[place]))
                bound = sum(row[at][0] for at in one.way_to(place)[:-1])
                self.assertTrue(same(one.bound(place), bound))
                self.assertTrue(same(one.end(place), plain_end(row, place, bound)))
                at, found = place + 1, []
                for _ in range(row[place][2]):
                    found.append(at)
                    at = plain_end(row, at, bound + row[place][0])
                self.assertTrue(same(one.arguments(place), tuple(found)))
                for inner in found:
                    self.assertTrue(same(one.way_to(inner), one.way_to(place) + (inner,)))

    def test_what_is_no_place(self):
        one = Program(ONE)
        for value in not_sizes(3):
            for call in [one.arguments, one.bound, one.way_to, one.end, lambda at: one[at]]:
                self.assertTrue(same(self.refused(InvalidNumber, call, value).number, value))

    def test_equality(self):
        rows = good_rows()[:60]
        for row in rows:
            for other in rows:
                self.assertIs(Program(row) == Program(other), row == other)
                self.assertIs(Program(row) != Program(other), row != other)
        for value in all_values() + [ONE]:
            self.assertIs(Program(ONE) == value, False)
            self.assertIs(Program(ONE) != value, True)

    def test_comes_ahead(self):
        rows = good_rows()[:80] + [((2, "x0", 0),), ((11, "x2", 0),), ((11, "x10", 0),)]
        for row in rows:
            for other in rows:
                ahead = len(row) < len(other) or (len(row) == len(other) and row < other)
                self.assertIs(Program(row).comes_ahead(Program(other)), ahead)
        self.assertIs(Program(((11, "x10", 0),)).comes_ahead(Program(((11, "x2", 0),))), True)
        for value in others(Program):
            self.refused(InvalidOperation, Program(ONE).comes_ahead, value)

    def test_renamed(self):
        one = Program(ONE)
        self.assertEqual(one.renamed({"k": "y", "y": "k"}).text, "\\x0. y (\\x1. x0 x1) k")
        self.assertEqual(one.renamed(names={"q": "a", "y": "x", "k": "k"}).text, "\\x0. k (\\x1. x0 x1) x")
        self.assertEqual(Program(((1, "x0", 0),)).renamed({}).text, "\\x0. x0")
        wrong = all_values() + [{"k": "a"}, {"k": "a", "y": "a"}, {"k": "a", "y": "b", "q": "a"}, {"k": "A", "y": "b"},
                                {"k": "a", "y": "b", "Q": "c"}, {"k": "a", "y": "b", 1: "c"}, {"k": "a", "y": None},
                                {"k": "a", "y": "b", "x0": "c"}, {"k": "x1", "y": "b"}, {"k": ["a"], "y": "b"},
                                {"k": "a", "y": "b", "q": 1}, [("k", "a"), ("y", "b")], ("k", "y")]
        for names in wrong:
            if names not in [{"a": "b"}]:
                self.refused(InvalidOperation, one.renamed, names)


class Types(Case):
    def test_which_programs_are_of_a_type(self):
        for library, goal, found in sample_programs():
            for one in found:
                self.assertIs(is_program(library, goal, one), True)

    def test_what_is_no_program_of_a_type(self):
        """All small trees of nodes over the heads and numbers that could fit, against the plain search."""
        for library, goal in sample_goals() + random_goals(6, 25):
            due = {nodes for nodes in programs_upto(library, goal, 3)}
            heads = list(library.names) + ["x0", "x1", "q"]
            nodes = [(binders, head, many) for head in heads for many in range(3)
                     for binders in {0, 1, 2, len(goal.inputs)} if binders < 3]
            rand = random.Random(len(nodes))
            rows = [(node,) for node in nodes] + list(itertools.product(nodes, repeat=2))
            rows += [tuple(rand.choice(nodes) for _ in range(3)) for _ in range(2000)] + sorted(due)
            for row in rows:
                if plain_end(row, 0, 0) == len(row):
                    self.assertIs(is_program(library, goal, Program(row)), row in due)

    def test_other_values_are_no_programs(self):
        for value in others(Program) + [((0, "z", 0),), "z"]:
            self.assertIs(is_program(NAT, Type.plain("n"), value), False)
        self.assertIs(is_program(NAT, Type.plain("n"), Program.read("z")), True)
        self.assertIs(is_program(library=NAT, goal=Type.plain("n"), value=Program.read("s")), False)

    def test_places_of_programs(self):
        for library, goal, found in sample_programs():
            for one in found:
                due = [told(question) for question in questions_in(library, goal, one.nodes)]
                for place in range(one.size):
                    self.assertTrue(same(question_at(library, goal, one, place), due[place]))
                    wanted, scope = type_at(library, goal, one, place), scope_at(library, goal, one, place)
                    self.assertEqual([len(wanted.inputs), wanted.atom], [one[place][0], due[place][1]])
                    self.assertEqual([text_of(tree(kind)) for kind in scope],
                                     [kind.text for at in one.way_to(place)
                                      for kind in type_at(library, goal, one, at).inputs])
                    for at, inner in enumerate(one.arguments(place)):
                        head = one[place][1]
                        kind = library[head] if head in library else scope[int(head[1:])]
                        self.assertEqual(type_at(library, goal, one, inner), kind[at])

    def test_one_program_in_full(self):
        one = Program.read("\\x0. k (\\x1. x1) y")
        self.assertEqual([type_at(ROOM, GOAL, one, at).text for at in range(3)], ["a -> c", "b -> b", "b"])
        self.assertEqual([one.size, [kind.text for kind in scope_at(ROOM, GOAL, one, 1)]], [3, ["a", "b"]])
        self.assertEqual(question_at(ROOM, GOAL, one, 1), (("(b -> b) -> b -> c", "a", "b"), "b"))

    def test_errors_come_in_their_order(self):
        one = Program.read("\\x0. k (\\x1. x1) y")
        for call in [type_at, scope_at, question_at]:
            for value in others(Library):
                self.refused(InvalidLibrary, call, value, None, None, None)
                self.refused(InvalidLibrary, call, value, GOAL, one, 0)
            for value in others(Type):
                self.refused(InvalidType, call, ROOM, value, None, None)
            for value in others(Program) + [Program.read("y"), Program.read("\\x0. k y y"), Program.read("\\x0. y")]:
                self.refused(InvalidProgram, call, ROOM, GOAL, value, None)
            for value in not_sizes(2):
                self.assertTrue(same(self.refused(InvalidNumber, call, ROOM, GOAL, one, value).number, value))
        for value in others(Library):
            self.refused(InvalidLibrary, is_program, value, None, None)
        for value in others(Type):
            self.refused(InvalidType, is_program, NAT, value, Program.read("z"))

    def test_the_same_program_in_other_libraries(self):
        one = Program.read("\\x0. k (\\x1. x)")
        goal = Type.read("(a -> b) -> c")
        self.assertIs(is_program(CONT, goal, one), True)
        self.assertIs(is_program(CONT.without("x"), goal, one), False)
        self.assertIs(is_program(CONT.with_part("x", Type.plain("a")), goal, one), False)
        self.assertIs(is_program(CONT, Type.read("c"), one), False)
        self.assertIs(is_program(CONT, Type.read("b -> c"), one), True)


class Unchanged(Case):
    def test_nothing_is_changed(self):
        one = Program(ONE)
        one.counts["k"] = 7
        one.counts.clear()
        names = {"y": "k", "k": "y"}
        kept = copy.deepcopy(names)
        one.renamed(names)
        self.assertEqual([one.counts, one.nodes, list(names.items())], [{"k": 1, "y": 1}, ONE, list(kept.items())])


if __name__ == "__main__":
    unittest.main()
