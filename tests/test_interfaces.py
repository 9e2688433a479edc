import copy
import random
import unittest
from unittest import mock

from fromparts.base.libraries import Library, fresh_names
from fromparts.base.programs import Program, check_program, is_program
from fromparts.base.types import Type
from fromparts.count.listing import Listing
from fromparts.errors import InvalidLibrary, InvalidOperation, InvalidProgram, InvalidType, TooMany
from fromparts.put import interfaces
from fromparts.put.interfaces import does_pass, far_library, interface_of, is_interface, shared_atoms
from fromparts.put.putting import own_program, put_in
from cases import CONT, LAMBDA, NAT, PIPE, TWO, Case, others, random_goals, sample_goals, some_library, some_type
from plain import is_built, rows_of
from search import programs_upto
from terms import plainly_put
from test_putting import NUMBERS, number_puts, whole_number
from test_questions import Q, wide
from values import all_values, same

GOAL = Type.read("a -> c")
PROGRAM = Program.read("\\x0. g (f x0)")
FAR = Program.read("\\x0. g (za x0)")
VALUE = ((Type.read("a -> b"),), (Program.read("\\x0. f x0"),), FAR)
AB = Type.read("a -> b")
A, B, C = Type.plain("a"), Type.plain("b"), Type.plain("c")


def goals():
    found = sample_goals() + random_goals(131, 90, parts=4, places=5, order=3, atoms="ab")
    found += random_goals(132, 90, parts=5, places=6, order=4, atoms="abc")
    return [(library, goal) for library, goal in found if programs_upto(library, goal, 6)]


def plain_shared(library, near, goal):
    near_atoms = {word for name in near for word in library[name].atoms}
    far = {word for name in library if name not in near for word in library[name].atoms} | set(goal.atoms)
    return tuple(sorted(near_atoms & far))


def plain_is_interface(library, near, goal, program, value):
    """Whether a value is an interface, word for word as the document says it."""
    if not isinstance(value, tuple) or len(value) != 3:
        return False
    row, given, far = value
    if not isinstance(row, tuple) or not isinstance(given, tuple) or len(row) != len(given):
        return False
    shared = plain_shared(library, near, goal)
    if not all(isinstance(one, Type) and all(word in shared for word in one.atoms) for one in row):
        return False
    if len(library) - len(near) + len(row) > 8:
        return False
    names = fresh_names(library, len(row))
    near_library = Library({name: library[name] for name in near})
    whole = Library({**{name: library[name] for name in library if name not in near}, **dict(zip(names, row))})
    if not all(is_program(near_library, wanted, one) for wanted, one in zip(row, given)):
        return False
    if not is_program(whole, goal, far) or not all(name in far.parts for name in names):
        return False
    return plainly_put(far.nodes, {name: one.nodes for name, one in zip(names, given)}) == program.nodes


def divisions(library):
    return rows_of(library.names)


class Interface(Case):
    def test_names_and_parameters(self):
        three = ["library", "near", "goal"]
        for call, parameters in [(shared_atoms, three), (interface_of, three + ["program"]),
                                 (is_interface, three + ["program", "value"]),
                                 (far_library, ["library", "near", "row"]), (does_pass, three + ["row"])]:
            self.assertEqual(call.__module__, "fromparts.put.interfaces")
            self.assertIs(getattr(interfaces, call.__name__), call)
            self.assertEqual(self.parameters(call), parameters)

    def test_examples(self):
        goal = Type.read("a -> c")
        program, far = Program.read("\\x0. g (f x0)"), Program.read("\\x0. g (za x0)")
        value = ((Type.read("a -> b"),), (Program.read("\\x0. f x0"),), far)
        self.assertTrue(same([shared_atoms(PIPE, ("f",), goal), is_interface(PIPE, ("f",), goal, program, value),
                              is_interface(PIPE, ("g",), goal, program, value),
                              interface_of(PIPE, (), goal, program)[0]], [("a", "b"), True, False, ()]))
        self.assertTrue(same([does_pass(PIPE, ("f",), goal, ()), does_pass(PIPE, ("g",), goal, (Type.read("b -> c"),))],
                             [False, True]))


class Shared(Case):
    def test_shared_atoms(self):
        for library, goal in goals():
            for near in divisions(library):
                self.assertTrue(same(shared_atoms(library, near, goal), plain_shared(library, near, goal)))

    def test_edges(self):
        self.assertEqual([shared_atoms(PIPE, (), GOAL), shared_atoms(PIPE, ("f", "g"), GOAL),
                          shared_atoms(PIPE, ("f", "g"), Type.plain("q")), shared_atoms(Library(), (), GOAL)],
                         [(), ("a", "c"), (), ()])


class Found(Case):
    def test_interfaces_for_all_divisions(self):
        many, crossing = 0, 0
        for library, goal in goals():
            several = programs_upto(library, goal, 7)
            rand = random.Random(len(several))
            for nodes in rand.sample(several, min(6, len(several))):
                program = Program(nodes)
                rows = divisions(library)
                for near in rand.sample(rows, min(8, len(rows))):
                    value = interface_of(library, near, goal, program)
                    self.assertTrue(plain_is_interface(library, near, goal, program, value))
                    self.assertIs(is_interface(library, near, goal, program, value), True)
                    self.assertIs(does_pass(library, near, goal, value[0]), True)
                    self.check_put_in(library, near, goal, program, value)
                    many += 1
                    crossing += len(value[0]) > 0
        self.assertGreater(crossing, 1000)

    def check_put_in(self, library, near, goal, program, value):
        """With the near programs put in, the far program becomes the program."""
        row, given, far = value
        whole = far_library(library, near, row)
        puts = dict(zip(fresh_names(library, len(row)), given))
        self.assertTrue(put_in(whole, goal, far, library.only(*near), puts) == program)

    def test_large_programs(self):
        """Programs of up to forty nodes: nearly all have an interface that is found."""
        rand = random.Random(133)
        lost, many = 0, 0
        while many < 40:
            library = some_library(rand, rand.randint(2, 8), rand.randint(3, 7), rand.randint(1, 4),
                                   "abcd"[:rand.randint(2, 4)])
            goal = some_type(rand, rand.randint(1, 4), 2, library.atoms)
            try:
                listing = Listing(library, goal, rand.choice([12, 20, 30, 40]))
            except TooMany:
                continue
            if listing.total:
                program = listing.program_with(rand.randrange(listing.total))
                near = tuple(name for name in library if rand.random() < 0.5)
                many += 1
                try:
                    value = interface_of(library, near, goal, program)
                except TooMany as error:
                    self.assertIn(error.limit, [8, 15, 40])
                    lost += 1
                else:
                    self.assertIs(is_interface(library, near, goal, program, value), True)
        self.assertLess(lost, 2)

    def test_nothing_near_or_nothing_far(self):
        for library, goal in goals()[:60]:
            for nodes in programs_upto(library, goal, 5)[:3]:
                program = Program(nodes)
                row, given, far = interface_of(library, (), goal, program)
                self.assertEqual([row, given, far.nodes], [(), (), nodes])
                row, given, far = interface_of(library, library.names, goal, program)
                self.assertTrue(all(word in goal.atoms for wanted in row for word in wanted.atoms))
                self.assertEqual([name for name in far.parts if name in library.names], [])

    def test_where_no_atom_is_shared_near_parts_do_nothing(self):
        """[13.2]."""
        library = PIPE | Library.read("s : n -> n", "z : n")
        self.assertEqual(shared_atoms(library, ("s", "z"), GOAL), ())
        self.assertEqual(interface_of(library, ("s", "z"), GOAL, PROGRAM)[0], ())
        self.assertEqual(shared_atoms(library, ("f", "g"), Type.plain("n")), ())
        self.assertEqual(interface_of(library, ("f", "g"), Type.plain("n"), Program.read("s z"))[1], ())

    def test_what_is_cut_at_atoms_of_one_side(self):
        """Types of near parts have an atom m that far parts do not have; it stays on its side."""
        library = Library.read("l : (m -> a) -> b", "u : m -> a -> a", "g : b -> a", "c : a", "h : a -> a")
        for text in ["l (\\x0. u x0 c)", "l (\\x0. h (u x0 (h (u x0 (h (u x0 c))))))",
                     "l (\\x0. u x0 (g (l (\\x1. u x0 (h (u x1 c))))))",
                     "l (\\x0. g (l (\\x1. g (l (\\x2. u x1 c)))))"]:
            program = Program.read(text)
            row, _, _ = value = interface_of(library, ("l", "u"), B, program)
            self.assertTrue(plain_is_interface(library, ("l", "u"), B, program, value))
            self.assertTrue(all("m" not in wanted.atoms for wanted in row))

    def test_far_variables_within_near_programs(self):
        goal = Type.read("((a -> b) -> c) -> (a -> b) -> c")
        library = Library.read("k : (b -> c) -> b -> c", "p : c -> b", "q : b -> a")
        for nodes in programs_upto(library, goal, 7)[:20]:
            for near in divisions(library):
                value = interface_of(library, near, goal, Program(nodes))
                self.assertTrue(plain_is_interface(library, near, goal, Program(nodes), value))

    def test_long_chains(self):
        """Near parts and far parts in turn, forty nodes long."""
        library = Library.read("f : a -> b", "g : b -> a", "z : a", "k : a -> b")
        one = Program(((0, "f", 1), (0, "g", 1)) * 19 + ((0, "k", 1), (0, "z", 0)))
        for near in divisions(library):
            value = interface_of(library, near, B, one)
            self.assertTrue(plain_is_interface(library, near, B, one, value))

    def test_eight_parts_and_nine(self):
        """Six far parts, and two near ones that make many values: they are given together."""
        library = Library.read("s : m -> m", "e : m -> n", "z : n", "p : n -> n -> n", "c : n", "d : n", "q : n -> n",
                               "i : (m -> n) -> n")
        near = ("e", "i", "s")
        pieces = ["z"]
        for many in range(1, 5):
            inner = "e x0"
            for _ in range(many):
                inner = inner.replace("x0", "(s x0)")
            pieces.append(f"(i (\\x0. {inner}))")
        text = pieces[-1]
        for piece in pieces[:-1]:
            text = f"(p {piece} {text})"
        program = Program.read(text[1:-1])
        self.assertIs(is_program(library, Type.plain("n"), program), True)
        value = interface_of(library, near, Type.plain("n"), program)
        self.assertTrue(plain_is_interface(library, near, Type.plain("n"), program, value))
        # Each of the four is a new part by itself, beside five far ones: nine, and no interface.
        names = fresh_names(library, 4)
        row = (Type.plain("n"),) * 4
        given = tuple(Program.read(piece[1:-1]) for piece in pieces[1:])
        far = Program.read("p za (p zb (p zc (p z zd)))")
        self.assertEqual(names, ("za", "zb", "zc", "zd"))
        self.assertIs(is_interface(library, near, Type.plain("n"), program, (row, given, far)), False)
        self.assertEqual(self.refused(TooMany, far_library, library, near, row).limit, 8)
        small = library.without("q")
        text = "p za (p zb (p zc (p zd z)))"
        program = put_in(far_library(small, near, row), Type.plain("n"), Program.read(text), small.only(*near),
                         dict(zip(names, given)))
        self.assertIs(is_interface(small, near, Type.plain("n"), program, (row, given, Program.read(text))), True)

    def test_too_many_new_parts(self):
        """Eight far parts leave room for none, and near parts are there: nine parts are no library, so seven."""
        library = Library.read("e : m", "i : m -> n", "b : n", "c : n", "d : n", "f : n", "g : n", "p : n -> n -> n")
        value = interface_of(library, ("e", "i"), Type.plain("n"), Program.read("p (i e) (p b (i e))"))
        self.assertEqual([wanted.text for wanted in value[0]], ["n"])
        # Two atoms in which near and far parts meet, and one place that is left.
        library = Library.read("e : (m -> a) -> b", "b : a -> b -> q", "c : q", "d : q", "f : q", "g : q", "h : a",
                               "k : q")
        program = Program.read("b h (e (\\x0. h))")
        value = interface_of(library, ("e",), Type.plain("q"), program)
        self.assertTrue(plain_is_interface(library, ("e",), Type.plain("q"), program, value))


class Judged(Case):
    def test_near_values(self):
        good, bad = 0, 0
        for library, goal in goals()[:60]:
            several = programs_upto(library, goal, 6)
            rand = random.Random(len(several))
            for nodes in rand.sample(several, min(2, len(several))):
                program = Program(nodes)
                for near in rand.sample(divisions(library), min(3, len(divisions(library)))):
                    value = interface_of(library, near, goal, program)
                    other = Program(rand.choice(several))
                    for wrong in near_values(value, other):
                        due = plain_is_interface(library, near, goal, program, wrong)
                        self.assertIs(is_interface(library, near, goal, program, wrong), due)
                        good += due
                        bad += not due
        self.assertGreater(min(good, bad), 100)

    def test_interfaces_of_others(self):
        """Small pieces, large ones, pieces that are not needed elsewhere, and in any order."""
        library = Library.read("f : a -> b", "g : b -> c", "h : c -> d", "y : a")
        program, near = Program.read("h (g (f y))"), ("f", "g")
        d = Type.plain("d")
        for row, given, far, due in [
                (["a -> c"], ["\\x0. g (f x0)"], "h (za y)", True),
                (["a -> c", "a -> c"], ["\\x0. g (f x0)"] * 2, "h (za y)", False),
                (["(a -> a) -> a -> c"], ["\\x0 x1. g (f (x0 x1))"], "h (za (\\x0. x0) y)", True),
                (["(a -> a) -> a -> c"], ["\\x0 x1. g (f (x0 (x0 x1)))"], "h (za (\\x0. x0) y)", True),
                (["(a -> a) -> a -> c"], ["\\x0 x1. g (f x1)"], "h (za (\\x0. y) y)", True),
                (["a -> b", "b -> c"], ["\\x0. f x0", "\\x0. g x0"], "h (zb (za y))", False),
                (["a -> c"], ["\\x0. g (f x0)"], "h (g (f y))", False),
                (["a -> c"], ["\\x0. g (f y)"], "h (za y)", False),
                (["a -> c", "c -> c"], ["\\x0. g (f x0)", "\\x0. x0"], "h (zb (za y))", True),
                (["a -> c", "c -> c"], ["\\x0. g (f x0)", "\\x0. x0"], "h (zb (zb (za y)))", True),
                (["a -> c", "c -> c"], ["\\x0. g (f x0)", "\\x0. x0"], "h (za y)", False),
                ([], [], "h (g (f y))", False), (["a -> a"], ["\\x0. x0"], "za y", False)]:
            value = (tuple(Type.read(text) for text in row), tuple(Program.read(text) for text in given),
                     Program.read(far))
            self.assertIs(is_interface(library, near, d, program, value), due, (row, given, far))
            self.assertIs(plain_is_interface(library, near, d, program, value), due)
        # The atom b is shared if f alone is near.
        value = ((AB,), (Program.read("\\x0. f x0"),), Program.read("h (g (za y))"))
        self.assertIs(is_interface(library, ("f",), d, program, value), True)

    def test_new_parts_have_fresh_names_of_the_whole_library(self):
        library = Library.read("za : a -> b", "g : b -> c")
        program, value = Program.read("\\x0. g (za x0)"), Program.read("\\x0. g (zb x0)")
        good = ((AB,), (Program.read("\\x0. za x0"),), value)
        self.assertIs(is_interface(library, ("za",), GOAL, program, good), True)
        self.assertIs(is_interface(library, ("za",), GOAL, program, good[:2] + (program,)), False)
        self.assertEqual(far_library(library, ("za",), (AB,)).names, ("g", "zb"))

    def test_every_value_is_judged(self):
        for value in all_values():
            self.assertIs(is_interface(PIPE, ("f",), GOAL, PROGRAM, value), False)
            for at in range(3):
                self.assertIs(is_interface(PIPE, ("f",), GOAL, PROGRAM, VALUE[:at] + (value,) + VALUE[at + 1:]), False)
            for near_one in [((value,),) + VALUE[1:], (VALUE[0], (value,), FAR)]:
                self.assertIs(is_interface(PIPE, ("f",), GOAL, PROGRAM, near_one),
                              plain_is_interface(PIPE, ("f",), GOAL, PROGRAM, near_one))
        for value in [list(VALUE), VALUE + (None,), VALUE[:2], ([AB],) + VALUE[1:], (VALUE[0], list(VALUE[1]), FAR),
                      ((AB, AB), VALUE[1], FAR), ((AB,), VALUE[1] * 2, FAR), (("a -> b",),) + VALUE[1:],
                      ((AB,) * 9, VALUE[1] * 9, FAR)]:
            self.assertIs(is_interface(PIPE, ("f",), GOAL, PROGRAM, value), False)
        self.assertIs(is_interface(PIPE, ("f",), GOAL, PROGRAM, VALUE), True)

    def test_what_becomes_another_program(self):
        """A far program whose result is far too large, or takes far too long: it differs in its first node."""
        library = NUMBERS.with_part("y", Type.plain("n"))
        near = tuple(library.names)
        row = tuple(NUMBERS[name] for name in NUMBERS)
        names = fresh_names(library, 4)
        renamed = dict(zip(NUMBERS.names, names))
        far = whole_number().renamed(renamed)
        puts = {**number_puts(9), "i": Program.read("\\x0. i x0"), "z": Program.read("z")}
        given = tuple(puts[name] for name in NUMBERS)
        self.assertIs(is_program(far_library(library, near, row), Type.plain("n"), far), True)
        for program in [Program.read("z"), Program.read("i (i z)")]:
            self.assertIs(is_interface(library, near, Type.plain("n"), program, (row, given, far)), False)
        small = {**number_puts(2), "i": Program.read("\\x0. i x0"), "z": Program.read("z")}
        program = Program(((0, "i", 1),) * 16 + ((0, "z", 0),))
        self.assertIs(is_interface(library, near, Type.plain("n"), program,
                                   (row, tuple(small[name] for name in NUMBERS), far)), True)
        self.assertIs(is_interface(library, near, Type.plain("n"), Program(program.nodes[1:]),
                                   (row, tuple(small[name] for name in NUMBERS), far)), False)


def near_values(value, other):
    """Values that are like an interface."""
    row, given, far = value
    found = [value, (row, given, other), (row[1:], given, far), (row, given[1:], far), (row[1:], given[1:], far),
             (row[::-1], given, far), (row, given[::-1], far), (row[::-1], given[::-1], far),
             (row + row[:1], given + given[:1], far), (row + (A,), given + (Program.read("f"),), far),
             (row, far, given)]
    for at in range(len(row)):
        found.append((row[:at] + (A >> row[at],) + row[at + 1:], given, far))
        found.append((row, given[:at] + (far,) + given[at + 1:], far))
        found.append((row, given[:at] + (other,) + given[at + 1:], far))
    if far.size > 1:
        for place in range(1, far.size):
            cut = far.nodes[:place] + far.nodes[far.end(place):]
            for extra in [((0, "x0", 0),), ((0, "za", 0),), far.nodes[:1]]:
                try:
                    found.append((row, given, Program(far.nodes[:place] + extra + far.nodes[far.end(place):])))
                except InvalidProgram:
                    pass
            try:
                found.append((row, given, Program(cut)))
            except InvalidProgram:
                pass
    return found


class Passing(Case):
    def test_which_rows_pass(self):
        texts = ["a", "b", "a -> b", "b -> a", "(a -> b) -> a", "a -> a", "c", "b -> c", "n"]
        passed, lost = 0, 0
        for library, goal in goals()[:90]:
            rand = random.Random(len(library))
            for near in rand.sample(divisions(library), min(6, len(divisions(library)))):
                for many in range(3):
                    row = tuple(Type.read(rand.choice(texts)) for _ in range(many))
                    if len(library) - len(near) + many <= 8:
                        due = self.plain(library, near, goal, row)
                        self.assertIs(does_pass(library, near, goal, row), due)
                        passed += due
                        lost += not due
                        # Then the library builds the goal.
                        self.assertTrue(not due or is_built(library, goal))
        self.assertGreater(min(passed, lost), 100)

    def plain(self, library, near, goal, row):
        shared = plain_shared(library, near, goal)
        near_library = Library({name: library[name] for name in near})
        far = Library({name: library[name] for name in library if name not in near})
        return (all(word in shared for wanted in row for word in wanted.atoms)
                and all(is_built(near_library, wanted) for wanted in row) and is_built(far, goal, row))

    def test_atoms_that_are_not_shared_do_not_pass(self):
        library = Library.read("f : a -> b", "g : b -> c", "h : c -> d", "y : a")
        d = Type.plain("d")
        self.assertIs(does_pass(library, ("f", "g"), d, (Type.read("a -> c"),)), True)
        self.assertIs(does_pass(library, ("f", "g"), d, (Type.read("a -> c"), Type.read("b -> c"))), False)
        self.assertIs(does_pass(library, ("f", "g", "y"), d, (C,)), True)
        self.assertIs(does_pass(library, ("f", "g", "y"), d, (C, A)), False)
        self.assertIs(does_pass(library, (), d, ()), True)

    def test_far_library(self):
        for library, _ in goals()[:40]:
            for near in divisions(library)[:12]:
                for row in [(), (A,), (A, AB, A)]:
                    names = fresh_names(library, len(row))
                    due = {**{name: library[name] for name in library if name not in near}, **dict(zip(names, row))}
                    self.assertTrue(far_library(library, near, row) == Library(due))
        self.assertEqual(far_library(library=PIPE, near=("f",), row=(A,)).lines, ("g : b -> c", "za : a"))

    def test_eight_parts_and_nine(self):
        self.assertEqual(len(far_library(PIPE, ("f", "g"), (A,) * 8)), 8)
        self.assertEqual(len(far_library(PIPE, ("f",), (A,) * 7)), 8)
        for near, many in [(("f",), 8), (("f", "g"), 9), ((), 7), (("f", "g"), 200)]:
            self.assertTrue(same(self.refused(TooMany, far_library, PIPE, near, (A,) * many).limit, 8))
            self.assertTrue(same(self.refused(TooMany, does_pass, PIPE, near, GOAL, (A,) * many).limit, 8))
        self.assertIs(does_pass(PIPE, ("f", "g"), GOAL, (GOAL,) * 8), True)


class Errors(Case):
    CALLS = [shared_atoms, lambda *three: interface_of(*three, None), lambda *three: is_interface(*three, None, None),
             lambda *three: does_pass(*three, None)]

    def wrong_near(self):
        return [value for value in all_values() if value != ()] + [
            ("g", "f"), ("f", "f"), ["f"], ("f", "q"), ("f", ["g"]), ("F",), "f", ("f", None), {"f": 1}, (("f",),)]

    def test_library_near_and_goal(self):
        for call in self.CALLS:
            for value in others(Library):
                self.refused(InvalidLibrary, call, value, None, None)
            for value in self.wrong_near():
                self.refused(InvalidOperation, call, PIPE, value, None)
            for value in others(Type):
                self.refused(InvalidType, call, PIPE, ("f",), value)
        for value in others(Library):
            self.refused(InvalidLibrary, far_library, value, None, None)
        for value in self.wrong_near():
            self.refused(InvalidOperation, far_library, PIPE, value, None)

    def test_programs(self):
        for value in others(Program) + [FAR, Program.read("f"), Program.read("\\x0. f x0")]:
            self.refused(InvalidProgram, interface_of, PIPE, ("f",), GOAL, value)
            self.refused(InvalidProgram, is_interface, PIPE, ("f",), GOAL, value, VALUE)

    def test_rows(self):
        for value in [value for value in all_values() if value != ()] + [[AB], ("a -> b",), (AB, None), AB,
                                                                         (None,) * 9]:
            self.refused(InvalidType, far_library, PIPE, ("f",), value)
            self.refused(InvalidType, does_pass, PIPE, ("f",), GOAL, value)

    def test_too_many_questions(self):
        many = wide(11).with_part("k", Type.read("q -> k"))
        self.assertTrue(same(self.refused(TooMany, does_pass, many, ("k",), Q, ()).limit, 2000))
        self.assertTrue(same(self.refused(TooMany, does_pass, many, ("s", "t"), Q, (Q,)).limit, 2000))
        self.assertTrue(same(self.refused(TooMany, does_pass, many, ("k",), Q, (Q,) * 7).limit, 8))
        # Cutting a program, and judging it, asks no questions.
        good = many.with_part("z", Q)
        value = interface_of(good, ("z",), Q, Program.read("z"))
        self.assertIs(is_interface(good, ("z",), Q, Program.read("z"), value), True)

    def test_too_large_types(self):
        """Fourteen far values come into a near one, and fifteen: its inner atom m does not pass."""
        library = Library.read("j : m -> m -> m -> m", "w : a -> m", "o : m -> a", "y : a", "v : a", "u : a")
        goal, near = Type.read("a -> " * 12 + "a"), ("j", "o", "w")
        leaves = [f"x{at}" for at in range(12)] + ["y", "v"]
        for last, due in [("x5", 15), ("u", None)]:
            inner = ((0, "w", 1), (0, last, 0))
            for at in range(0, 14, 2):
                inner = ((0, "j", 3),) + sum([((0, "w", 1), (0, leaf, 0)) for leaf in leaves[at:at + 2]], ()) + inner
            program = Program(((12, "o", 1),) + inner)
            if due is None:
                self.assertTrue(same(self.refused(TooMany, interface_of, library, near, goal, program).limit, 15))
            else:
                value = interface_of(library, near, goal, program)
                self.assertEqual([len(wanted) for wanted in value[0]], [due])
                self.assertTrue(plain_is_interface(library, near, goal, program, value))

    def test_too_large_programs(self):
        """A near program binds 91 variables and one for each far value that comes in: a hundred, or one more."""
        library = Library.read(f"g : ({' -> '.join(['m'] * 13)} -> c) -> c", f"w : {'a -> ' * 10}c", "f : a -> a",
                               "y : a", "v : a")
        row = ["y", "v", "f y", "f v", "f (f y)", "f (f v)", "f (f (f y))", "f (f (f v))", "f (f (f (f y)))"]
        for last, due in [("y", 10), ("f (f (f (f v)))", None)]:
            inner = Program.read("w " + " ".join([f"({text})" if " " in text else text for text in row + [last]]))
            program = Program(((0, "g", 1),) + ((13, "g", 1),) * 6 + ((13, "w", 10),) + inner.nodes[1:])
            if due is None:
                self.assertTrue(same(self.refused(TooMany, interface_of, library, ("g", "w"), C, program).limit, 40))
            else:
                value = interface_of(library, ("g", "w"), C, program)
                self.assertEqual([len(wanted) for wanted in value[0]], [due])
                self.assertIs(is_interface(library, ("g", "w"), C, program, value), True)

    def test_too_many_parts(self):
        """Four near values of different types beside five far parts: given by themselves, and given together."""
        library = Library.read("j : m -> m -> m", "w : a -> m", "o : m -> a", "p : a -> a -> a",
                               *[f"{name} : a" for name in "uvxy"])
        pieces = []
        for names in ["x", "xy", "yvu", "uvyx"]:
            inner = f"w {names[0]}"
            for name in names[1:]:
                inner = f"j (w {name}) ({inner})"
            pieces.append(f"(o ({inner}))")
        program = Program.read("p {} (p {} (p {} {}))".format(*pieces))
        near = ("j", "o", "w")
        value = interface_of(library, near, A, program)
        self.assertLessEqual(len(value[0]), 3)
        self.assertTrue(plain_is_interface(library, near, A, program, value))
        alone = [manner for manner in interfaces._manners(check_program(library, A, program), ("a",))
                 if manner[0] is None]
        with mock.patch.object(interfaces, "_manners", lambda told, shared: alone):
            self.assertTrue(same(self.refused(TooMany, interface_of, library, near, A, program).limit, 8))
            few = library.without("u", "v")
            self.assertLessEqual(len(interface_of(few, near, A, Program.read(f"p {pieces[0]} {pieces[1]}"))[0]), 5)


class Unchanged(Case):
    def test_nothing_is_changed(self):
        value = [[AB], (own_program(PIPE, "f"),), FAR]
        ahead = [list(value[0]), value[1], value[2]]
        is_interface(PIPE, ("f",), GOAL, PROGRAM, value)
        is_interface(PIPE, ("f",), GOAL, PROGRAM, tuple(value))
        self.assertTrue(value[0] == ahead[0] and value[1] is ahead[1] and value[2] is ahead[2])
        far = far_library(PIPE, ("f",), (AB,)).parts
        far.clear()
        self.assertEqual([PIPE.names, copy.copy(VALUE)], [("f", "g"), VALUE])

    def test_equal_calls_return_equal_results(self):
        for library in [CONT, LAMBDA, NAT, TWO]:
            for nodes in programs_upto(library, C if library is CONT else A, 5)[:3]:
                for near in divisions(library):
                    goal = C if library is CONT else A
                    one = interface_of(library, near, goal, Program(nodes))
                    other = interface_of(library, near, goal, Program(nodes))
                    self.assertEqual([[wanted.text for wanted in one[0]], [given.text for given in one[1]],
                                      one[2].text],
                                     [[wanted.text for wanted in other[0]], [given.text for given in other[1]],
                                      other[2].text])


if __name__ == "__main__":
    unittest.main()
