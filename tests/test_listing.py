import itertools
import unittest

from fromparts.base.libraries import Library
from fromparts.base.programs import Program, is_program
from fromparts.base.types import Type
from fromparts.count import listing
from fromparts.count.counts import counts_upto
from fromparts.count.listing import Listing, all_programs, next_program, program_at, programs_of, rank_of
from fromparts.errors import (InvalidLibrary, InvalidNumber, InvalidProgram, InvalidType, NoProgram, TooMany)
from cases import CONT, LAMBDA, NAT, PIPE, TWO, Case, not_sizes, others, random_goals, sample_goals
from search import parts_of, programs, programs_upto, tree
from test_building import doubling
from test_counts import FOURTEEN, LEAVES, WAYS
from test_questions import Q, wide
from values import all_values, same

N = Type.plain("n")
A = Type.plain("a")
MORE = WAYS.with_part("z", Type.read("(d -> q) -> q")).with_part("y", Type.read("(d -> d -> q) -> q")).with_part(
    "x", Type.read("d -> q -> q -> q"))


def goals():
    return sample_goals() + random_goals(61, 60) + random_goals(62, 30, parts=6, places=7)


def not_ranks():
    return [value for value in all_values() if value.__class__ is not int or not 0 <= value < 10 ** 60] + [-1]


class Interface(Case):
    def test_names_and_parameters(self):
        two = ["library", "goal"]
        for call, parameters in [(programs_of, two + ["size"]), (all_programs, two + ["most"]),
                                 (program_at, two + ["rank"]), (rank_of, two + ["program"]),
                                 (next_program, two + ["program"]), (Listing, two + ["size"])]:
            self.assertEqual(call.__module__, "fromparts.count.listing")
            self.assertIs(getattr(listing, call.__name__), call)
            self.assertEqual(self.parameters(call), parameters)
        for name, parameters in [("program_with", ["rank"]), ("rank", ["program"]), ("between", ["first", "last"])]:
            self.assertEqual(self.parameters(getattr(Listing(NAT, N, 2), name)), parameters)
        self.assertRaises(TypeError, all_programs, NAT, N, 4)

    def test_methods_stand_in_the_class_itself(self):
        for name in ["library", "goal", "size", "counts", "total", "program_with", "rank", "between", "__contains__",
                     "__eq__", "__str__"]:
            self.assertIn(name, vars(Listing))

    def test_first_example(self):
        n = Type.read("n")
        two = Library.read("z : n", "y : n", "p : n -> n -> n")
        self.assertTrue(same([[one.text for one in programs_of(two, n, 3)], program_at(two, n, 5).text,
                              rank_of(two, n, Program.read("p z z")), next_program(two, n, Program.read("p z z")).size],
                             [["p y y", "p y z", "p z y", "p z z"], "p z z", 5, 5]))

    def test_second_example(self):
        listed = Listing(TWO, N, 5)
        self.assertTrue(same([listed.counts, listed.total, str(listed), listed.program_with(6).text,
                              [one.text for one in listed.between(1, 3)]],
                             [(0, 2, 0, 4, 0, 16), 22, "22 programs of n, up to 5", "p (p y y) y", ["z", "p y y"]]))


class Lists(Case):
    def test_programs_of_each_size(self):
        for library, goal in goals():
            for size in range(6):
                due = list(programs(parts_of(library), (), tree(goal), size))[:400]
                found = list(itertools.islice(programs_of(library, goal, size), 400))
                self.assertTrue(same([one.nodes for one in found], due))

    def test_all_programs(self):
        for library, goal in goals():
            for most in [0, 1, 4, 5]:
                found = [one.nodes for one in itertools.islice(all_programs(library, goal, most=most), 400)]
                self.assertTrue(same(found, programs_upto(library, goal, most)[:400]))

    def test_renaming_renames_the_programs(self):
        for library, goal in goals():
            parts = {name: "w" + letter for name, letter in zip(library, "hgfedcba")}
            atoms = {word: "v" + word[::-1] for word in sorted(set(library.atoms) | set(goal.atoms))}
            renamed = library.renamed(parts).with_atoms({word: atoms[word] for word in library.atoms})
            due = [one.renamed(parts).nodes for one in all_programs(library, goal, most=3)]
            wanted = goal.renamed({word: atoms[word] for word in goal.atoms})
            found = [one.nodes for one in all_programs(renamed, wanted, most=3)]
            self.assertEqual(found, sorted(due, key=lambda nodes: (len(nodes), nodes)))

    def test_forty_nodes_are_the_most(self):
        self.assertEqual([one.size for one in all_programs(NAT, N)], list(range(1, 41)))
        self.assertEqual([one.text for one in all_programs(PIPE, Type.read("a -> c"))], ["\\x0. g (f x0)"])
        self.assertEqual(list(all_programs(doubling(5), A)), [])
        self.assertEqual(list(all_programs(PIPE, N)), [])
        self.assertEqual(next(programs_of(NAT, N, 40)).size, 40)

    def test_lists_can_be_begun_where_they_are_long(self):
        found = list(itertools.islice(all_programs(LAMBDA, A), 200))
        due = programs_upto(LAMBDA, A, 8)
        self.assertEqual([one.nodes for one in found], due[:200])
        for nodes, one in zip(due, found):
            self.assertIs(is_program(LAMBDA, A, one), True)

    def test_strings_order_variables(self):
        """Variables are compared as strings: x10 comes ahead of x2, and parts as they stand among them."""
        goal = Type.read(" -> ".join(["a"] * 12))
        library = Library.read("b : a", "x : a", "y : a")
        heads = sorted(["b", "x", "y"] + [f"x{level}" for level in range(11)])
        self.assertEqual([one[0][1] for one in programs_of(library, goal, 1)], heads)
        self.assertEqual([program_at(library, goal, at)[0][1] for at in range(14)], heads)
        self.assertEqual([rank_of(library, goal, Program(((11, head, 0),))) for head in heads], list(range(14)))

    def test_more_than_a_hundred_variables_are_left_out(self):
        library = LEAVES.only("l")
        found = list(programs_of(library, A, 8))
        self.assertEqual([len(found), len(list(programs_of(library, A, 9)))], [91, 0])
        self.assertEqual([one.nodes for one in found], list(programs(parts_of(library), (), tree(A), 8)))
        last = found[-1]
        self.assertIs(next_program(library, A, last), None)
        self.assertEqual(rank_of(library, A, last), 13 * 28 - 1)
        self.assertEqual(program_at(library, A, 13 * 28 - 1), last)
        self.assertEqual(self.refused(NoProgram, program_at, library, A, 13 * 28).wanted, "a")
        nine = Type.read(" -> ".join(["a"] * 10))
        self.assertEqual([one[7][1] for one in programs_of(library, nine, 8)], sorted(f"x{at}" for at in range(100)))

    def test_generators_raise_nothing_ahead_of_their_first_element(self):
        for found in [programs_of(None, None, None), all_programs(None, None, most=None), programs_of(MORE, Q, 40),
                      all_programs(MORE, Q)]:
            self.assertIs(iter(found), found)
        self.refused(TooMany, next, programs_of(MORE, Q, 40))


class Ranks(Case):
    def test_programs_by_their_ranks(self):
        for library, goal in goals():
            due = programs_upto(library, goal, 5)
            step = max(1, len(due) // 25)
            for rank in sorted(set(list(range(0, len(due), step)) + list(range(min(12, len(due)))))):
                one = program_at(library, goal, rank)
                self.assertEqual(one.nodes, due[rank])
                self.assertTrue(same(rank_of(library, goal, one), rank))
                if rank + 1 < len(due):
                    self.assertEqual(next_program(library, goal, one).nodes, due[rank + 1])

    def test_next_programs_of_other_sizes(self):
        self.assertEqual(next_program(TWO, N, Program.read("z")).text, "p y y")
        self.assertEqual(next_program(NAT, N, Program.read("z")).text, "s z")
        self.assertIs(next_program(PIPE, Type.read("a -> c"), Program.read("\\x0. g (f x0)")), None)
        forty = Program(((0, "s", 1),) * 39 + ((0, "z", 0),))
        self.assertIs(next_program(NAT, N, forty), None)
        gap = Library.read("z : n", "t : n -> n -> n -> n -> n -> n -> n -> n -> n -> n -> n -> n -> n -> n -> n")
        self.assertEqual(next_program(gap, N, Program.read("z")).size, 15)

    def test_great_ranks(self):
        counts = counts_upto(LAMBDA, A, 40)
        for size in [20, 33, 40]:
            for rank in [sum(counts[:size]), sum(counts[:size]) + counts[size] // 3, sum(counts[:size + 1]) - 1]:
                one = program_at(LAMBDA, A, rank)
                self.assertEqual([one.size, rank_of(LAMBDA, A, one)], [size, rank])
        self.assertEqual(program_at(LAMBDA, A, sum(counts) - 1).size, 40)
        self.assertEqual(self.refused(NoProgram, program_at, LAMBDA, A, sum(counts)).wanted, "a")

    def test_ranks_behind_the_last_program(self):
        for library, goal, many in [(PIPE, Type.read("a -> c"), 1), (PIPE, N, 0), (NAT, N, 40), (doubling(5), A, 0),
                                    (Library(), Type.read("a -> a -> a"), 2)]:
            for rank in [many, many + 1, 10 ** 60 - 1]:
                self.assertEqual(self.refused(NoProgram, program_at, library, goal, rank).wanted, goal.text)
            if many:
                self.assertIs(is_program(library, goal, program_at(library, goal, many - 1)), True)

    def test_only_sizes_up_to_that_of_the_program_count(self):
        self.assertTrue(same(self.refused(TooMany, counts_upto, MORE, Q, 40).limit, 20000))
        first = program_at(MORE, Q, 0)
        self.assertEqual(rank_of(MORE, Q, first), 0)
        self.assertEqual(next_program(MORE, Q, first), program_at(MORE, Q, 1))
        small = program_at(LEAVES, FOURTEEN, 10 ** 9)
        self.assertEqual(rank_of(LEAVES, FOURTEEN, small), 10 ** 9)
        self.assertTrue(same(self.refused(TooMany, next, all_programs(LEAVES, FOURTEEN)).limit, 60))
        self.assertTrue(same(self.refused(TooMany, Listing, LEAVES, FOURTEEN, 39).limit, 60))
        self.assertEqual(next(all_programs(LEAVES, FOURTEEN, most=38)).size, 1)

    def test_what_is_no_rank(self):
        for value in not_ranks():
            self.assertTrue(same(self.refused(InvalidNumber, program_at, NAT, N, value).number, value))
            self.assertTrue(same(self.refused(InvalidNumber, program_at, PIPE, N, value).number, value))

    def test_what_is_no_program(self):
        for value in others(Program) + [Program.read("q"), Program.read("s"), Program.read("\\x0. z"), "z"]:
            for call in [rank_of, next_program, lambda *told: Listing(NAT, N, 3).rank(told[2])]:
                self.refused(InvalidProgram, call, NAT, N, value)


class Listings(Case):
    def test_listings(self):
        for library, goal in goals():
            for size in [0, 1, 4]:
                due = programs_upto(library, goal, size)
                listed = Listing(library, goal, size)
                self.assertTrue(same([listed.library == library, listed.goal == goal, listed.size, listed.counts,
                                      listed.total], [True, True, size, counts_upto(library, goal, size), len(due)]))
                self.assertEqual(str(listed), f"{len(due)} programs of {goal.text}, up to {size}")
                for rank in range(0, len(due), max(1, len(due) // 10)):
                    one = listed.program_with(rank)
                    self.assertEqual(one.nodes, due[rank])
                    self.assertTrue(same(listed.rank(one), rank))
                    self.assertIs(one in listed, True)
                for rank in [-1, len(due), len(due) + 1, 10 ** 59]:
                    self.assertTrue(same(self.refused(InvalidNumber, listed.program_with, rank).number, rank))
                for first, last in [(0, 0), (0, 3), (2, 100), (1, 101), (len(due), len(due) + 3), (3, 3)]:
                    found = listed.between(first, last)
                    self.assertEqual(found.__class__, tuple)
                    self.assertEqual([one.nodes for one in found], due[first:last])

    def test_between(self):
        listed = Listing(TWO, N, 9)
        self.assertEqual([len(listed.between(0, 100)), len(listed.between(5, 105)), listed.total], [100, 100, 550])
        self.assertTrue(same(self.refused(TooMany, listed.between, 0, 101).limit, 100))
        self.assertEqual(self.refused(TooMany, listed.between, 10 ** 50, 10 ** 50 + 101).limit, 100)
        self.assertEqual(listed.between(10 ** 50, 10 ** 50 + 100), ())
        self.assertEqual([one.text for one in listed.between(first=0, last=2)], ["y", "z"])
        for value in not_ranks():
            self.assertTrue(same(self.refused(InvalidNumber, listed.between, value, None).number, value))
            self.assertTrue(same(self.refused(InvalidNumber, listed.between, value, 3).number, value))
            self.assertTrue(same(self.refused(InvalidNumber, listed.between, 0, value).number, value))
        for first, last in [(3, 2), (1, 0), (500, 1)]:
            self.assertTrue(same(self.refused(InvalidNumber, listed.between, first, last).number, last))

    def test_no_rank_of_a_listing(self):
        listed = Listing(NAT, N, 3)
        for value in not_sizes(2):
            self.assertTrue(same(self.refused(InvalidNumber, listed.program_with, value).number, value))

    def test_members(self):
        listed = Listing(NAT, N, 3)
        for text, due in [("z", True), ("s z", True), ("s (s z)", True), ("s (s (s z))", False), ("y", False),
                          ("\\x0. z", False), ("s", False)]:
            self.assertIs(Program.read(text) in listed, due)
            if not due:
                self.refused(InvalidProgram, listed.rank, Program.read(text))
        for value in others(Program):
            self.assertIs(value in listed, False)

    def test_equality(self):
        every = [Listing(NAT, N, 3), Listing(NAT, N, 4), Listing(TWO, N, 3), Listing(NAT, Type.read("n -> n"), 3)]
        for at, one in enumerate(every):
            for place, other in enumerate(every):
                self.assertIs(one == other, at == place)
                self.assertIs(one != other, at != place)
            for value in all_values():
                self.assertIs(one == value, False)
                self.assertIs(one != value, True)
        self.assertIs(Listing(NAT, N, 3) == Listing(Library.read("z : n", "s : n -> n"), Type.read("n"), 3), True)

    def test_listings_cannot_be_iterated_over(self):
        self.assertRaises(TypeError, iter, Listing(NAT, N, 3))

    def test_calls_do_not_change_a_listing(self):
        listed = Listing(LAMBDA, A, 12)
        told = [listed.counts, listed.total, [listed.program_with(rank).text for rank in (0, 50, 4000)]]
        listed.between(0, 90)
        listed.rank(listed.program_with(77))
        self.assertEqual(told, [listed.counts, listed.total,
                                [listed.program_with(rank).text for rank in (0, 50, 4000)]])


class Errors(Case):
    def test_errors_come_in_their_order(self):
        for call in [lambda *told: next(programs_of(*told)), lambda *told: next(all_programs(*told[:2], most=told[2])),
                     program_at, rank_of, next_program, Listing]:
            for value in others(Library):
                self.refused(InvalidLibrary, call, value, None, None)
            for value in others(Type):
                self.refused(InvalidType, call, NAT, value, None)
        for call in [lambda *told: next(programs_of(*told)), lambda *told: next(all_programs(*told[:2], most=told[2])),
                     Listing]:
            for value in not_sizes(40):
                self.assertTrue(same(self.refused(InvalidNumber, call, MORE, Q, value).number, value))
            self.assertTrue(same(self.refused(TooMany, call, MORE, Q, 40).limit, 20000))

    def test_many_questions_are_no_matter(self):
        self.assertEqual(list(programs_of(wide(11), Q, 5)), [])
        self.assertEqual(Listing(CONT, Type.plain("c"), 2).total, 1)


if __name__ == "__main__":
    unittest.main()
