import copy
import random
import unittest

from fromparts.base.libraries import Library
from fromparts.base.programs import Program, is_program
from fromparts.base.types import Type
from fromparts.errors import InvalidLibrary, InvalidOperation, InvalidProgram, InvalidType, TooMany, UnknownWord
from fromparts.put import putting
from fromparts.put.putting import MAX_WORK, applied, joint_library, own_program, own_puts, put_in, put_over
from cases import CONT, LAMBDA, NAT, PIPE, TWO, Case, others, random_goals, sample_goals, some_library
from search import parts_of, programs, programs_upto, tree
from terms import own_nodes, plainly_applied, plainly_put
from trees import FIFTEEN, ORDER_FOUR
from values import all_values, same

N = Type.plain("n")
C = Type.plain("c")
LONG = "(((a -> a) -> a) -> a) -> ((a -> a) -> a) -> (a -> a) -> a -> a -> a -> a -> a -> a"
TARGET = Library.read("t : n -> n -> n", "y : n")
PUTS = {"s": Program.read("\\x0. t x0 x0"), "z": Program.read("y")}
# Numbers as programs: how often a function is done. What is put in for t takes the square of two again and again.
ONCE = "(n -> n) -> n -> n"
NUMBERS = Library.read(f"t : (({ONCE}) -> {ONCE}) -> {ONCE}", f"u : ({ONCE}) -> {ONCE}", "i : n -> n", "z : n")
THIRTEEN = " -> ".join(["m"] * 13)
WIDE = Library.read(f"f : ({THIRTEEN} -> c) -> c", f"g : ({THIRTEEN} -> c) -> c", "y : c")
WIDE_TARGET = WIDE.without("f", "y")


def goals():
    found = sample_goals() + random_goals(111, 60) + random_goals(112, 40, parts=5, places=6, order=4, atoms="ab")
    return [(library, goal) for library, goal in found if programs_upto(library, goal, 5)]


def some_of(rand, library, goal, size, many):
    """Some programs of a goal with at most so many nodes."""
    found = programs_upto(library, goal, size)
    return [Program(nodes) for nodes in (found if len(found) <= many else rand.sample(found, many))]


def with_puts(seed):
    """Rows (library, goal, program, target, puts), where some parts or all have programs in the target."""
    rand = random.Random(seed)
    found = []
    several = goals() + [(library, goal) for library, goal in random_goals(seed, 60, atoms="ab") * 2]
    for library, goal in several:
        for target in [library.renamed({name: name + "q" for name in library}), Library({"w": Type.read("n -> n")}),
                       some_library(rand, 4, 4, 2, sorted(set(library.atoms) | {"a"}))]:
            puts = {}
            for part in rand.sample(library.names, len(library)):
                able = some_of(rand, target, library[part], 4, 3)
                if able and rand.random() < 0.8:
                    puts[part] = rand.choice(able)
            left = [name for name in library if name not in puts]
            if len(set(left) | set(target)) <= 8 and all(target.parts.get(name, library[name]) == library[name]
                                                         for name in left):
                found.extend([(library, goal, one, target, puts) for one in some_of(rand, library, goal, 5, 3)])
    return found


def number(times):
    """The nodes of the program that takes the square of two so many times."""
    def inner(left, step, last, level):
        """What stands below, with the function and the number at these levels, and so many variables above."""
        if left == 0:
            return ((0, f"x{step}", 1), (0, f"x{step}", 1), (0, f"x{last}", 0))
        below = inner(left - 1, level, level + 1, level + 2)
        return (((0, "x0", 3), (2,) + below[0][1:]) + below[1:]
                + ((1, f"x{step}", 1), (0, f"x{level}", 0), (0, f"x{last}", 0)))

    row = inner(times, 1, 2, 3)
    return ((3,) + row[0][1:],) + row[1:]


def number_puts(times):
    square = Program.read("\\x0 x1 x2. x0 (\\x3. x0 (\\x4. x1 x4) x3) x2")
    return {"t": Program(number(times)), "u": square, "i": Program.read("\\x0. x0"), "z": Program.read("y")}


def whole_number():
    """The program that takes all parts of NUMBERS."""
    return Program(((0, "t", 3),) + own_nodes(tree(NUMBERS["u"]), "u") + ((1, "i", 1), (0, "x0", 0), (0, "z", 0)))


def wide_chain(binders, heads):
    """Heads that bind thirteen variables each, one below the other, and y."""
    row = [(binders, heads[0], 1)] + [(13, head, 1) for head in heads[1:]] + [(13, "y", 0)]
    return Program(tuple(row))


def doubling(many):
    """What binds so many variables twice, and then does what it is applied to."""
    first = " ".join([f"x{at}" for at in range(1, many + 1)])
    second = " ".join([f"x{at}" for at in range(many + 1, 2 * many + 1)])
    return Program.read(f"\\x0. g (\\{first}. g (\\{second}. x0 {first}))")


class Interface(Case):
    def test_constant(self):
        self.assertTrue(same(MAX_WORK, 20000))

    def test_names_and_parameters(self):
        for call, parameters in [(own_program, ["library", "part"]), (own_puts, ["library"]),
                                 (applied, ["library", "goal", "program", "programs"]),
                                 (put_in, ["library", "goal", "program", "target", "puts"]),
                                 (joint_library, ["library", "target", "puts"]),
                                 (put_over, ["library", "target", "puts", "source", "more"])]:
            self.assertEqual(call.__module__, "fromparts.put.putting")
            self.assertIs(getattr(putting, call.__name__), call)
            self.assertEqual(self.parameters(call), parameters)

    def test_first_example(self):
        self.assertTrue(same([own_program(CONT, "k").text, applied(
            PIPE.with_part("y", Type.read("a")), Type.read("a -> c"), Program.read("\\x0. g (f x0)"),
            Program.read("y")).text], ["\\x0. k (\\x1. x0 x1)", "g (f y)"]))

    def test_second_example(self):
        target = Library.read("t : n -> n -> n", "y : n")
        puts = {"s": Program.read("\\x0. t x0 x0"), "z": Program.read("y")}
        self.assertTrue(same([put_in(NAT, Type.read("n"), Program.read("s (s z)"), target, puts).text,
                              joint_library(NAT, target, puts).names], ["t (t y y) (t y y)", ("t", "y")]))

    def test_keywords(self):
        self.assertEqual(put_in(library=NAT, goal=N, program=Program.read("z"), target=TARGET, puts=PUTS).text, "y")
        self.assertEqual(own_program(library=NAT, part="s").text, "\\x0. s x0")


class Own(Case):
    def test_own_programs(self):
        for library, _ in sample_goals() + random_goals(113, 60, parts=6, places=8, order=4):
            due = {part: own_nodes(tree(library[part]), part) for part in library}
            self.assertTrue(same({part: one.nodes for part, one in own_puts(library).items()}, due))
            for part in library:
                self.assertTrue(same(own_program(library, part).nodes, due[part]))
                self.assertIs(is_program(library, library[part], own_program(library, part)), True)

    def test_fifteen_places_and_eight_parts(self):
        """An own program has as many nodes as its type has places."""
        library = Library.read(f"a : {FIFTEEN}", f"b : {LONG}", f"c : {ORDER_FOUR}", "d : a",
                               *[f"{name} : a -> a" for name in "efgh"])
        self.assertEqual([own_program(library, part).size for part in library], [15, 15, 5, 1, 2, 2, 2, 2])
        self.assertEqual(own_program(library, "c").text, "\\x0. c (\\x1. x0 (\\x2. x1 (\\x3. x2 x3)))")
        self.assertEqual(list(own_puts(library)), list("abcdefgh"))

    def test_they_change_nothing(self):
        """[11.4], with all own programs, and with some."""
        for library, goal in goals():
            own = own_puts(library)
            found = [Program(nodes) for nodes in programs_upto(library, goal, 5)[:10]]
            for one in found:
                self.assertTrue(put_in(library, goal, one, library, own) == one)
                self.assertTrue(put_in(library, goal, one, Library(), {}) == one)
                for part in library:
                    self.assertTrue(put_in(library, goal, one, library, {part: own[part]}) == one)
        one = whole_number()
        self.assertTrue(put_in(NUMBERS, N, one, NUMBERS, own_puts(NUMBERS)) == one)

    def test_errors(self):
        for value in others(Library):
            self.refused(InvalidLibrary, own_program, value, None)
            self.refused(InvalidLibrary, own_puts, value)
        for value in [value for value in all_values() if value != "z"] + ["n", ("s",)]:
            self.assertTrue(same(self.refused(UnknownWord, own_program, NAT, value).asked, value))


class Applied(Case):
    def test_applied(self):
        rand = random.Random(5)
        many = 0
        for library, goal in goals():
            several = some_of(rand, library, goal, 6, 4)
            able = [some_of(rand, library, wanted, 5, 3) for wanted in goal.inputs]
            for one in several:
                self.assertTrue(applied(library, goal, one) == one)
                for count in range(1, len(able) + 1):
                    if all(able[:count]):
                        given = [rand.choice(row) for row in able[:count]]
                        found = applied(library, goal, one, *given)
                        due = plainly_applied(one.nodes, [other.nodes for other in given])
                        self.assertTrue(same(found.nodes, due))
                        self.assertIs(is_program(library, goal % count, found), True)
                        many += 1
        self.assertGreater(many, 100)

    def test_functions_put_in_one_another(self):
        goal = Type.read("((n -> n) -> n -> n) -> ((n -> n) -> n) -> (n -> n) -> n")
        one = Program.read("\\x0 x1 x2. x0 (\\x3. x2 (x1 (\\x4. x0 (\\x5. x2 x3) x4))) (x1 (\\x3. x3))")
        rand = random.Random(7)
        able = [some_of(rand, TWO, wanted, 7, 12) for wanted in goal.inputs]
        for _ in range(150):
            given = [rand.choice(row) for row in able]
            try:
                found = applied(TWO, goal, one, *given).nodes
            except TooMany:
                found = None
            due = plainly_applied(one.nodes, [other.nodes for other in given])
            self.assertEqual(found, due if len(due) <= 40 else None)

    def test_one_after_another(self):
        """Applying to two programs is applying to one, and the result to the other one."""
        rand = random.Random(8)
        for library, goal in goals():
            if len(goal.inputs) > 1:
                able = [some_of(rand, library, wanted, 4, 2) for wanted in goal.inputs[:2]]
                several = [(one, first, other) for one in some_of(rand, library, goal, 5, 3) for first in able[0]
                           for other in able[1]]
                for one, first, other in several:
                    half = applied(library, goal, one, first)
                    self.assertTrue(applied(library, goal % 1, half, other) == applied(library, goal, one, first,
                                                                                       other))

    def test_levels(self):
        goal = Type.read("(n -> n) -> n -> n -> n")
        one = Program.read("\\x0 x1 x2. p (x0 x1) (x0 x2)")
        self.assertEqual(applied(TWO, goal, one, Program.read("\\x0. p x0 z")).text, "\\x0 x1. p (p x0 z) (p x1 z)")
        self.assertEqual(applied(TWO, goal, one, Program.read("\\x0. x0"), Program.read("y")).text, "\\x0. p y x0")
        self.assertEqual(applied(LAMBDA, Type.read("(a -> a) -> a"), Program.read("\\x0. lam (\\x1. x0 (x0 x1))"),
                                 Program.read("\\x0. lam (\\x1. app x1 x0)")).text,
                         "lam (\\x0. lam (\\x1. app x1 (lam (\\x2. app x2 x0))))")

    def test_errors(self):
        goal, one = Type.read("n -> n"), Program.read("\\x0. s x0")
        for value in others(Library):
            self.refused(InvalidLibrary, applied, value, None, None, None)
        for value in others(Type):
            self.refused(InvalidType, applied, NAT, value, None, None)
        for value in others(Program) + [Program.read("z"), Program.read("\\x0. q x0"), Program.read("s z")]:
            self.refused(InvalidProgram, applied, NAT, goal, value)
            self.refused(InvalidProgram, applied, NAT, goal, value, Program.read("z"))
        for value in others(Program) + [one, Program.read("y"), Program.read("s")]:
            self.refused(InvalidProgram, applied, NAT, goal, one, value)
            self.refused(InvalidProgram, applied, NAT, Type.read("n -> n -> n"), Program.read("\\x0 x1. x0"),
                         Program.read("z"), value)
        self.refused(InvalidProgram, applied, NAT, goal, one, Program.read("z"), Program.read("z"))
        self.refused(InvalidProgram, applied, NAT, N, Program.read("z"), Program.read("z"))

    def test_forty_nodes_and_forty_one(self):
        goal = Type.read("n -> n")
        for size in [18, 19, 20, 38]:
            leaf = Program(((0, "s", 1),) * size + ((0, "z", 0),))
            chain = Program(((1, "s", 1),) + ((0, "s", 1),) * 19 + ((0, "x0", 0),))
            if 20 + leaf.size <= 40:
                self.assertEqual(applied(NAT, goal, chain, leaf).size, 20 + leaf.size)
            else:
                self.assertTrue(same(self.refused(TooMany, applied, NAT, goal, chain, leaf).limit, 40))
        # What does not come into the result may be large, and what comes twice counts twice.
        large = Program(((0, "s", 1),) * 39 + ((0, "z", 0),))
        self.assertEqual(applied(NAT, goal, Program.read("\\x0. z"), large).text, "z")
        twenty = Program(((0, "p", 2), (0, "z", 0)) * 9 + ((0, "z", 0),))
        both = Program.read("\\x0. p x0 x0")
        self.assertEqual(applied(TWO, goal, both, twenty).size, 39)
        more = Program(((0, "p", 2), (0, "z", 0)) * 10 + ((0, "z", 0),))
        self.assertEqual(self.refused(TooMany, applied, TWO, goal, both, more).limit, 40)

    def test_a_hundred_variables_and_more(self):
        """What is applied stands below variables of the program, and binds its own."""
        ten = " -> ".join(["m"] * 10)
        library = Library.read(f"g : ({ten} -> c) -> c", "y : c")
        for uses, more, due in [(5, 0, 100), (4, 2, 82), (5, 1, None), (6, 0, None)]:
            goal = Type.read(f"(({ten} -> c) -> c) -> " + "m -> " * more + "c")
            one = Program(((1 + more, "x0", 1),) + ((10, "x0", 1),) * (uses - 1) + ((10, "y", 0),))
            self.assertEqual(applied(library, goal, one, own_program(library, "g")).size, uses + 1)
            if due is None:
                self.refused(InvalidProgram, applied, library, goal, one, doubling(10))
            else:
                found = applied(library, goal, one, doubling(10))
                self.assertEqual([found.size, found.bound(uses * 2) + found[uses * 2][0]], [uses * 2 + 1, due])


class PutIn(Case):
    def test_put_in(self):
        many, partly, small = 0, 0, 0
        for library, goal, one, target, puts in with_puts(114):
            due = plainly_put(one.nodes, {name: puts[name].nodes for name in puts})
            if len(due) <= 40:
                found = put_in(library, goal, one, target, puts)
                self.assertTrue(same(found.nodes, due))
                joint = joint_library(library, target, puts)
                self.assertIs(is_program(joint, goal, found), True)
                left = {name: library[name] for name in library if name not in puts}
                self.assertTrue(joint == Library({**left, **target.parts}))
                many += 1
                partly += 0 < len(puts) < len(library)
            else:
                self.assertEqual(self.refused(TooMany, put_in, library, goal, one, target, puts).limit, 40)
                small += 1
        self.assertGreater(min(many, partly), 150)

    def test_parts_of_the_target_stay(self):
        """What is put in has parts of the same names, which nothing is put in for."""
        library = Library.read("f : n -> n", "z : n")
        puts = {"f": Program.read("\\x0. f (f x0)"), "z": Program.read("f z")}
        self.assertEqual(put_in(library, N, Program.read("f (f z)"), library, puts).text, "f (f (f (f (f z))))")
        swapped = Library.read("f : a", "g : a")
        puts = {"f": Program.read("g"), "g": Program.read("f")}
        self.assertEqual(put_in(swapped, Type.plain("a"), Program.read("f"), swapped, puts).text, "g")

    def test_putting_in_twice(self):
        """[11.4]: putting in more, and then puts, is putting in what `put_over` tells."""
        many = 0
        for source, goal, one, library, more in with_puts(115):
            if len(more) < len(source):
                continue
            rand = random.Random(len(one.text))
            target = library.renamed({name: name + "p" for name in library}).with_part("o", Type.read("a"))
            puts = {}
            for part in library:
                able = some_of(rand, target, library[part], 3, 3)
                if able:
                    puts[part] = rand.choice(able)
            if len(puts) < len(library):
                continue
            over = put_over(library, target, puts, source, more)
            self.assertEqual(list(over), sorted(more))
            for name in more:
                self.assertTrue(over[name] == put_in(library, source[name], more[name], target, puts))
            first = put_in(source, goal, one, library, more)
            self.assertTrue(put_in(library, goal, first, target, puts) == put_in(source, goal, one, target, over))
            many += 1
        self.assertGreater(many, 50)

    def test_put_over_with_parts_left(self):
        library = NAT.with_part("w", Type.read("n -> n -> n"))
        more = {"f": Program.read("\\x0. w (s x0) z"), "y": Program.read("s z")}
        source = Library.read("y : n", "f : n -> n", "g : n -> n")
        over = put_over(library, TARGET, PUTS, source, more)
        self.assertEqual([(name, one.text) for name, one in over.items()], [("f", "\\x0. w (t x0 x0) y"),
                                                                            ("y", "t y y")])
        self.assertEqual(put_over(library, TARGET, PUTS, source, {}), {})
        self.assertEqual(list(put_over(library, TARGET, {}, source, dict(reversed(list(more.items()))))), ["f", "y"])

    def test_joint_library(self):
        self.assertEqual(joint_library(NAT, TARGET, {}).lines, ("s : n -> n", "t : n -> n -> n", "y : n", "z : n"))
        self.assertEqual(joint_library(NAT, NAT, {}).lines, NAT.lines)
        self.assertEqual(joint_library(NAT, TARGET, {"s": None}).names, ("t", "y", "z"))
        # A part for which something is put in can have any type in the target.
        self.assertEqual(joint_library(NAT, Library.read("s : a"), {"s": [1]}).lines, ("s : a", "z : n"))
        self.refused(InvalidOperation, joint_library, NAT, Library.read("s : a"), {"z": 1})
        self.refused(InvalidOperation, put_in, NAT, N, Program.read("z"), Library.read("s : a", "y : n"),
                     {"z": Program.read("y")})

    def test_eight_parts_and_nine(self):
        seven = Library({name: N for name in "abcdefg"})
        self.assertEqual(len(joint_library(NAT, seven, {"s": None})), 8)
        self.refused(InvalidLibrary, joint_library, NAT, seven, {})
        self.assertEqual(put_in(NAT, N, Program.read("s z"), seven, {"z": Program.read("c")}).text, "s c")
        self.refused(InvalidLibrary, put_in, NAT, N, Program.read("z"), seven, {})
        self.refused(InvalidLibrary, put_over, NAT, seven, {}, Library(), {})
        # Ahead of too many nodes.
        double = Library.read("s : n -> n -> n", "z : n")
        long = Program(((0, "s", 2),) * 13 + ((0, "z", 0),) * 14)
        target = seven.without("a").with_part("a", Type.read("n -> n"))
        puts = {"z": Program.read("a (a b)")}
        self.assertEqual(self.refused(TooMany, put_in, double, N, long, target, puts).limit, 40)
        self.refused(InvalidLibrary, put_in, double, N, long, Library({**target.parts, "h": N}), puts)

    def test_forty_nodes_and_forty_one(self):
        for size in range(18, 23):
            one = Program(((0, "s", 1),) * size + ((0, "z", 0),))
            puts = {"s": Program.read("\\x0. s (s x0)")}
            if 2 * size + 1 <= 40:
                self.assertEqual(put_in(NAT, N, one, NAT, puts).size, 2 * size + 1)
            else:
                error = self.refused(TooMany, put_in, NAT, N, one, NAT, puts)
                self.assertTrue(same(error.limit, 40))
                more = Library.read("k : n")
                self.assertEqual(self.refused(TooMany, put_over, NAT, NAT, puts, more, {"k": one}).limit, 40)
        one = Program(((0, "s", 1),) * 19 + ((0, "z", 0),))
        puts = {"s": Program.read("\\x0. s (s x0)"), "z": Program.read("s z")}
        self.assertEqual(put_in(NAT, N, one, NAT, puts).size, 40)
        puts["z"] = Program.read("s (s z)")
        self.assertEqual(self.refused(TooMany, put_in, NAT, N, one, NAT, puts).limit, 40)

    def test_a_hundred_variables_and_more(self):
        double = doubling(13)
        puts = {"f": double}
        for binders, heads, due in [(9, "fffg", 100), (10, "fffg", None), (0, "fff", 78), (0, "ffff", None)]:
            goal = Type.read("m -> " * binders + "c")
            one = wide_chain(binders, heads)
            if due is None:
                self.refused(InvalidProgram, put_in, WIDE, goal, one, WIDE_TARGET, puts)
                self.refused(InvalidProgram, put_over, WIDE, WIDE_TARGET, puts, Library({"k": goal}), {"k": one})
            else:
                found = put_in(WIDE, goal, one, WIDE_TARGET, puts)
                self.assertEqual(found.bound(found.size - 1) + found[found.size - 1][0], due)

    def test_too_many_nodes_are_told_ahead_of_too_many_variables(self):
        library = WIDE.with_part("w", Type.read("c -> c -> c"))
        one = Program(((0, "w", 2),) + wide_chain(0, "ffff").nodes + ((0, "w", 2), (0, "y", 0)) * 16 + ((0, "y", 0),))
        puts = {"f": doubling(13)}
        target = WIDE_TARGET
        self.assertIs(is_program(library, C, one), True)
        self.assertEqual(self.refused(TooMany, put_in, library, C, one, target, puts).limit, 40)
        # One of several programs has too many variables, and one behind it too many nodes.
        source = Library({"k": C, "l": C})
        more = {"k": wide_chain(0, "ffff"), "l": one}
        self.assertEqual(self.refused(TooMany, put_over, library, target, puts, source, more).limit, 40)
        self.refused(InvalidProgram, put_over, library, target, puts, source, {**more, "l": Program.read("y")})

    def test_long_work(self):
        """A small result of much work; work without end in sight is given up."""
        one, target = whole_number(), Library.read("y : n")
        self.assertIs(is_program(NUMBERS, N, one), True)
        for times in [0, 1, 2, 3]:
            self.assertIs(is_program(target, NUMBERS["t"], number_puts(times)["t"]), True)
            self.assertEqual(put_in(NUMBERS, N, one, target, number_puts(times)).text, "y")
        for times in [5, 8, 9]:
            self.assertTrue(same(self.refused(TooMany, put_in, NUMBERS, N, one, target, number_puts(times)).limit,
                                 20000))
        # Where each of the functions leaves a node, there soon are too many nodes.
        for times in [3, 9]:
            puts = {**number_puts(times), "i": Program.read("\\x0. s x0"), "z": Program.read("z")}
            self.assertIn(self.refused(TooMany, put_in, NUMBERS, N, one, NAT, puts).limit, [40, 20000])
        puts = {**number_puts(2), "i": Program.read("\\x0. s x0"), "z": Program.read("z")}
        self.assertEqual(put_in(NUMBERS, N, one, NAT, puts).size, 17)

    def test_what_does_not_come_into_the_result_costs_nothing(self):
        library = NUMBERS.with_part("c", Type.read("n -> n -> n"))
        one = Program(((0, "c", 2), (0, "z", 0)) + whole_number().nodes)
        puts = {**number_puts(9), "c": Program.read("\\x0 x1. x0")}
        self.assertEqual(put_in(library, N, one, Library.read("y : n"), puts).text, "y")


class Errors(Case):
    def test_put_in(self):
        one = Program.read("s z")
        for value in others(Library):
            self.refused(InvalidLibrary, put_in, value, None, None, None, None)
            self.refused(InvalidLibrary, put_in, NAT, N, one, value, None)
        for value in others(Type):
            self.refused(InvalidType, put_in, NAT, value, None, None, None)
        for value in others(Program) + [Program.read("s"), Program.read("y"), Program.read("\\x0. z")]:
            self.refused(InvalidProgram, put_in, NAT, N, value, None, None)
        for value in self.wrong_puts():
            self.refused(InvalidOperation, put_in, NAT, N, one, TARGET, value)

    def wrong_puts(self):
        """Values that are no dicts from parts of NAT to programs of their types in TARGET."""
        good = dict(PUTS)
        found = [value for value in all_values() if value != {}]
        found += [{**good, "q": Program.read("y")}, {"z": Program.read("z")}, {"s": Program.read("y")},
                  {"s": Program.read("\\x0. s x0")}, {**good, "z": None}, {**good, 1: Program.read("y")},
                  {"z": ((0, "y", 0),)}, {"z": "y"}, list(good.items()), {("z",): Program.read("y")},
                  {"z": Program.read("t y")}, {None: Program.read("y")}]
        return found

    def test_joint_library(self):
        for value in others(Library):
            self.refused(InvalidLibrary, joint_library, value, None, None)
            self.refused(InvalidLibrary, joint_library, NAT, value, None)
        for value in [value for value in all_values() if value != {}] + [{"q": None}, {"s": 1, 2: 3}, ["s"], ("s",),
                                                                         {("s",): 1}]:
            self.refused(InvalidOperation, joint_library, NAT, TARGET, value)

    def test_put_over(self):
        source, more = Library.read("k : n"), {"k": Program.read("s z")}
        for value in others(Library):
            self.refused(InvalidLibrary, put_over, value, None, None, None, None)
            self.refused(InvalidLibrary, put_over, NAT, value, None, None, None)
            self.refused(InvalidLibrary, put_over, NAT, TARGET, PUTS, value, None)
        for value in self.wrong_puts():
            self.refused(InvalidOperation, put_over, NAT, TARGET, value, None, None)
            self.refused(InvalidOperation, put_over, NAT, TARGET, value, source, more)
        for value in [value for value in all_values() if value != {}] + [
                {"q": Program.read("z")}, {"k": Program.read("y")}, {"k": Program.read("\\x0. z")}, {"k": None}]:
            self.refused(InvalidOperation, put_over, NAT, TARGET, PUTS, source, value)
        # A part with two types is told ahead of the source, and too many parts behind all that.
        self.refused(InvalidOperation, put_over, NAT, Library.read("s : a"), {}, None, None)
        seven = Library({name: N for name in "abcdefg"})
        self.refused(InvalidLibrary, put_over, NAT, seven, {}, None, None)
        self.refused(InvalidOperation, put_over, NAT, seven, {}, source, None)
        self.refused(InvalidLibrary, put_over, NAT, seven, {}, source, more)
        self.assertEqual(put_over(NAT, TARGET, PUTS, source, more)["k"].text, "t y y")

    def test_two_types_ahead_of_too_many_parts(self):
        seven = Library({**{name: N for name in "abcdefg"}, "s": N})
        self.refused(InvalidOperation, joint_library, NAT, seven, {})
        self.refused(InvalidOperation, put_in, NAT, N, Program.read("z"), seven, {})


class Unchanged(Case):
    def test_nothing_is_changed(self):
        puts = dict(reversed(list(PUTS.items())))
        kept = list(puts.items())
        put_in(NAT, N, Program.read("s z"), TARGET, puts)
        joint_library(NAT, TARGET, puts)
        found = put_over(NAT, TARGET, puts, NAT, own_puts(NAT))
        found.clear()
        own = own_puts(NAT)
        own.clear()
        self.assertEqual([name for name, _ in kept], list(puts))
        self.assertTrue(all(puts[name] is one for name, one in kept))
        self.assertEqual([list(own_puts(NAT)), NAT.lines, TARGET.names], [["s", "z"], ("s : n -> n", "z : n"),
                                                                          ("t", "y")])
        given = {"s": [1]}
        ahead = copy.deepcopy(given)
        joint_library(NAT, TARGET, given)
        self.assertEqual(given, ahead)

    def test_results_are_programs_that_the_plain_search_finds(self):
        for size in range(1, 4):
            for nodes in programs(parts_of(NAT), (), tree(N), size):
                found = put_in(NAT, N, Program(nodes), TARGET, PUTS)
                self.assertIn(found.nodes, programs(parts_of(TARGET), (), tree(N), 2 ** size - 1))


if __name__ == "__main__":
    unittest.main()
