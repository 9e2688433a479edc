import copy
import unittest
from unittest import mock

from fromparts.ask.building import least_size
from fromparts.ask.questions import Questions, builds, heads_of, subquestions
from fromparts.base.libraries import Library
from fromparts.base.programs import Program, is_program, question_at
from fromparts.base.types import Type
from fromparts.count import counts, tally
from fromparts.count.counts import (count, count_of, count_paper, counts_upto, is_count_paper, pumped,
                                    usable_questions)
from fromparts.errors import (InvalidLibrary, InvalidNumber, InvalidOperation, InvalidProgram, InvalidType, TooMany)
from cases import CONT, LAMBDA, NAT, PIPE, TWO, Case, not_sizes, others, random_goals, sample_goals
from search import (Named, asked, choices_of, first_of, is_endless, parts_of, programs, programs_upto, questions_in,
                    ranks_of, told, total, tree, usable_of)
from test_building import doubling
from test_questions import JUST, Q, wide
from values import all_values, same

N = Type.plain("n")
A = Type.plain("a")
FIRST = (("n", "n -> n"), "n")
LOOP = (Program.read("s z"), 0, 1)
LETTERS = "abcdefgh"

# Each l binds thirteen variables, and p takes eleven arguments.
LEAVES = Library.read(f"l : ({' -> '.join(['a'] * 14)}) -> a", f"p : {' -> '.join(['a'] * 12)}",
                      *[f"{name} : a" for name in "cdefgh"])
FOURTEEN = Type.read(" -> ".join(["a"] * 15))
# How often each of three types is in scope depends on the way: more and more triples come up with the size.
WAYS = Library.read("l : (a -> q) -> q", "k : (b -> q) -> q", "m : (c -> q) -> q", "p : a -> b -> c -> q")


def goals():
    found = sample_goals() + random_goals(51, 80) + random_goals(52, 40, parts=5, places=7)
    return [(library, goal) for library, goal in found if len(asked(first_of(library, goal))) <= 60]


def loops_in(library, goal, nodes):
    """All pairs of places of a program, one below the other, with the same question."""
    every = questions_in(library, goal, nodes)
    one = Program(nodes)
    return [(outer, inner) for inner in range(len(nodes)) for outer in one.way_to(inner)[:-1]
            if every[outer] == every[inner]]


def steps_of(first):
    """The questions that the choices of one question ask."""
    return [one for head in heads_of(first) for one in subquestions(first, head)]


class Interface(Case):
    def test_names_and_parameters(self):
        two = ["library", "goal"]
        for call, parameters in [(usable_questions, two), (count, two), (count_paper, two),
                                 (is_count_paper, two + ["value"]), (count_of, two + ["size"]),
                                 (counts_upto, two + ["size"]), (pumped, two + ["loop", "times"])]:
            self.assertEqual(call.__module__, "fromparts.count.counts")
            self.assertIs(getattr(counts, call.__name__), call)
            self.assertEqual(self.parameters(call), parameters)

    def test_first_example(self):
        n = Type.read("n")
        self.assertTrue(same([count(NAT, n), count(PIPE, Type.read("a -> c")), count(PIPE, n),
                              count(Library(), Type.read("a -> a -> a")), counts_upto(NAT, n, 4)],
                             [None, 1, 0, 2, (0, 1, 1, 1, 1)]))

    def test_second_example(self):
        n, loop = Type.read("n"), (Program.read("s z"), 0, 1)
        self.assertTrue(same([is_count_paper(NAT, n, ("loop", loop)), pumped(NAT, n, loop, 2).text,
                              count_paper(CONT, Type.read("c"))[0]], [True, "s (s (s z))", "ranks"]))


class Usable(Case):
    def test_usable_questions(self):
        for library, goal in goals():
            due = tuple(sorted(told(question) for question in usable_of(first_of(library, goal))))
            self.assertTrue(same(usable_questions(library, goal), due))
            self.assertTrue(same(usable_questions(library, goal), Questions(library, goal).usable()))

    def test_the_questions_of_programs_are_usable(self):
        for library, goal in goals():
            usable = usable_questions(library, goal)
            for nodes in programs_upto(library, goal, 5)[:30]:
                for question in questions_in(library, goal, nodes):
                    self.assertIn(told(question), usable)

    def test_questions_that_come_up_and_are_not_usable(self):
        library = Library.read("f : a -> b -> c", "g : a", "h : a -> c", "k : c -> d")
        self.assertEqual([question[1] for question in usable_questions(library, Type.plain("c"))], ["a", "c"])


class Numbers(Case):
    def test_count(self):
        finite, endless = 0, 0
        for library, goal in goals():
            first = first_of(library, goal)
            if is_endless(first):
                endless += 1
                self.assertIs(count(library, goal), None)
            else:
                finite += 1
                self.assertTrue(same(count(library, goal), total(library, goal)))
                self.assertGreaterEqual(total(library, goal), len(programs_upto(library, goal, 4)))
        self.assertGreater(min(finite, endless), 30)

    def test_count_is_the_number_of_all_programs(self):
        """Where no program is larger than eight nodes, they are all searched for."""
        for text, due in [("a -> a -> a", 2), ("(a -> b) -> (b -> c) -> a -> c", 1), ("a -> (a -> b) -> b", 1),
                          ("a -> a -> (a -> a -> b) -> b", 4), ("((a -> a -> b) -> c) -> (a -> b) -> c", 2)]:
            goal = Type.read(text)
            self.assertEqual([count(Library(), goal), len(programs_upto(Library(), goal, 9))], [due, due])

    def test_several_heads_of_one_type_count(self):
        """[0.23]: the number does not depend on the set of types in scope only."""
        one = Library.read("f : a -> b", "g : a -> b", "y : a")
        self.assertEqual([count(one, Type.plain("b")), count(one.without("g"), Type.plain("b"))], [2, 1])
        self.assertEqual(count(one, Type.read("a -> b")), 4)
        self.assertEqual(count(CONT.with_part("y", Type.plain("b")), Type.read("b -> (a -> b) -> c")), 4)

    def test_a_question_within_itself_is_endless_in_programs_only(self):
        """[0.23]: a question that comes up within itself is no matter if no program has it there."""
        library = Library.read("z : a", "f : a -> q -> a")
        first = Questions(library, A).first
        self.assertIn(first, steps_of(first))
        self.assertEqual(count(library, A), 1)
        self.assertIs(count(library.with_part("y", Q), A), None)

    def test_the_same_question_with_other_numbers_of_variables(self):
        library = Library.read("f : (x -> b) -> a", "g : (x -> x -> b) -> a", "h : (x -> a) -> c", "k : a -> c",
                               "m : x -> x -> b")
        for text in ["a", "c", "x -> c", "x -> x -> a"]:
            self.assertEqual(count(library, Type.read(text)), total(library, Type.read(text)))

    def test_sixty_digits_and_more(self):
        # Just 10 ** 60 programs have one digit too many: each of sixty places has one of ten variables.
        lines = ["f : b -> b -> b -> b -> b -> a", "g : " + " -> ".join(["c"] * 12) + " -> b"]
        ten = Type.read(" -> ".join(["c"] * 10 + ["a"]))
        self.assertTrue(same(self.refused(TooMany, count, Library.read(*lines), ten).limit, 60))
        nine = ["h : c -> c -> c -> c -> c -> c -> c -> c -> c -> c -> c -> d -> e", "f : b -> b -> b -> b -> e -> a",
                "g : " + " -> ".join(["c"] * 12) + " -> b"] + [f"{name} : d" for name in "klmno"]
        goal = Type.read(" -> ".join(["c"] * 10 + ["d"] * 4 + ["a"]))
        self.assertTrue(same(count(Library.read(*nine), goal), 9 * 10 ** 59))

    def test_huge_numbers_are_told_at_once(self):
        lines = [f"{name} : " + " -> ".join([inner] * 14 + [outer])
                 for name, inner, outer in zip("pqrstu", LETTERS[1:], LETTERS)]
        library = Library.read(*lines, "y : g", "z : g")
        self.assertEqual(self.refused(TooMany, count, library, A).limit, 60)
        self.assertEqual(count(library.without("z"), A), 1)
        self.assertEqual(count(library.without("y", "z"), A), 0)

    def test_large_programs_count(self):
        self.assertEqual(count(doubling(7), A), 1)
        self.assertEqual(counts_upto(doubling(7), A, 40), (0,) * 41)

    def test_count_of_sizes(self):
        for library, goal in goals():
            due = [len(programs(parts_of(library), (), tree(goal), size)) for size in range(7)]
            self.assertTrue(same(counts_upto(library, goal, 6), tuple(due)))
            self.assertTrue(same([count_of(library, goal, size) for size in range(7)], due))

    def test_greater_sizes(self):
        # Binary trees with two leaves to take each time, and chains.
        catalan = [1]
        for at in range(20):
            catalan.append(catalan[at] * 2 * (2 * at + 1) // (at + 2))
        due = [0] + [catalan[size // 2] * 2 ** (size // 2 + 1) if size % 2 else 0 for size in range(1, 41)]
        self.assertTrue(same(counts_upto(TWO, N, 40), tuple(due)))
        self.assertTrue(same(counts_upto(NAT, N, 40), (0,) + (1,) * 40))
        self.assertTrue(same(counts_upto(NAT, Type.read("n -> n"), 40), (0,) + (2,) * 40))
        self.assertTrue(same([count_of(LAMBDA, A, size) for size in range(8)],
                             [len(programs(parts_of(LAMBDA), (), tree(A), size)) for size in range(8)]))

    def test_no_size(self):
        for call in [count_of, counts_upto]:
            for value in not_sizes(40):
                self.assertTrue(same(self.refused(InvalidNumber, call, NAT, N, value).number, value))
            self.assertTrue(same([call(NAT, N, 0), call(library=NAT, goal=N, size=0)],
                                 [0, 0] if call is count_of else [(0,), (0,)]))
            self.assertIn(call(NAT, N, 40).__class__, (int, tuple))

    def test_sizes_with_too_many_digits(self):
        self.assertEqual(len(str(count_of(LEAVES, FOURTEEN, 38))), 60)
        for size in [39, 40]:
            self.assertTrue(same(self.refused(TooMany, count_of, LEAVES, FOURTEEN, size).limit, 60))
            self.assertTrue(same(self.refused(TooMany, counts_upto, LEAVES, FOURTEEN, size).limit, 60))
        self.assertEqual(counts_upto(LEAVES, FOURTEEN, 38)[38], count_of(LEAVES, FOURTEEN, 38))

    def test_too_many_triples(self):
        self.assertEqual(count_of(WAYS, Q, 10), len(programs(parts_of(WAYS), (), tree(Q), 10)))
        self.assertGreater(count_of(WAYS, Q, 25), 10 ** 10)
        self.assertTrue(same(self.refused(TooMany, counts_upto, WAYS.with_part("z", Type.read("(d -> q) -> q"))
                                          .with_part("y", Type.read("(d -> d -> q) -> q"))
                                          .with_part("x", Type.read("d -> q -> q -> q")), Q, 40).limit, 20000))

    def test_too_many_questions_come_up(self):
        """Very many scopes, and no program: each argument of each part brings one of very many types."""
        lines = []
        for at, name in enumerate(LETTERS):
            words = [name + letter for letter in "abcd"]
            lines.append(f"{name} : (" + " -> ".join([f"(({word} -> q) -> q)" for word in words]) + " -> q) -> q")
        library = Library.read(*lines)
        self.assertEqual(counts_upto(library, Q, 4), (0,) * 5)
        self.assertTrue(same(self.refused(TooMany, counts_upto, library, Q, 40).limit, 20000))

    def test_limits_to_the_letter(self):
        """With lower limits: four triples come up for four sizes of NAT, and four questions in PIPE."""
        with mock.patch.object(tally, "MAX_TRIPLES", 4):
            self.assertEqual(counts_upto(NAT, N, 4), (0, 1, 1, 1, 1))
            self.assertEqual(self.refused(TooMany, counts_upto, NAT, N, 5).limit, 4)
            self.assertEqual(count_of(NAT, N, 4), 1)
        with mock.patch.object(tally, "MAX_TRIPLES", 2):
            self.assertEqual(self.refused(TooMany, counts_upto, PIPE, Type.plain("c"), 5).limit, 2)
        with mock.patch.object(tally, "MAX_TRIPLES", 3):
            self.assertEqual(counts_upto(PIPE, Type.plain("c"), 5), (0,) * 6)
        with mock.patch.object(counts, "TOO_LONG", 17):
            self.assertEqual(counts_upto(TWO, N, 5), (0, 2, 0, 4, 0, 16))
        with mock.patch.object(counts, "TOO_LONG", 16):
            self.assertEqual(self.refused(TooMany, counts_upto, TWO, N, 5).limit, 60)
            self.assertEqual(self.refused(TooMany, count_of, TWO, N, 5).limit, 60)

    def test_more_than_a_hundred_variables_are_left_out(self):
        library = LEAVES.only("l")
        self.assertTrue(same(counts_upto(library, A, 12), tuple([0] + [13 * at for at in range(8)] + [0] * 4)))
        self.assertEqual(count_of(library, A, 9), len(programs(parts_of(library), (), tree(A), 9)))
        # Nine of the goal and seven times thirteen are just a hundred.
        for many, due in [(8, 99), (9, 100), (10, 0)]:
            self.assertEqual(count_of(library, Type.read(" -> ".join(["a"] * (many + 1))), 8), due)

    def test_many_questions_are_no_matter_for_sizes(self):
        self.assertEqual(counts_upto(wide(11), Q, 3), (0, 0, 0, 0))
        self.assertEqual(self.refused(TooMany, count, wide(11), Q).limit, 2000)
        self.assertEqual(self.refused(TooMany, usable_questions, wide(11), Q).limit, 2000)
        self.assertIs(count(JUST, Q), 0)
        self.assertIs(count(JUST.with_part("z", Q), Q), None)

    def test_errors(self):
        for call in [usable_questions, count, count_paper, lambda *two: is_count_paper(*two, None),
                     lambda *two: count_of(*two, None), lambda *two: counts_upto(*two, None),
                     lambda *two: pumped(*two, None, None)]:
            for value in others(Library):
                self.refused(InvalidLibrary, call, value, None)
            for value in others(Type):
                self.refused(InvalidType, call, NAT, value)


class Papers(Case):
    def test_papers(self):
        for library, goal in goals():
            endless = is_endless(first_of(library, goal))
            paper = count_paper(library, goal)
            self.assertEqual([paper.__class__, len(paper), paper[0]], [tuple, 2, "loop" if endless else "ranks"])
            self.assertIs(is_count_paper(library, goal, paper), True)
            if endless:
                program, outer, inner = paper[1]
                self.assertIs(is_program(library, goal, program), True)
                self.assertIn((outer, inner), loops_in(library, goal, program.nodes))
            else:
                self.assertTrue(same(list(paper[1]), list(usable_questions(library, goal))))

    def test_loops_are_as_small_as_can_be(self):
        for library, goal in goals():
            if is_endless(first_of(library, goal)):
                program = count_paper(library, goal)[1][0]
                for nodes in programs_upto(library, goal, min(5, program.size - 1)):
                    self.assertEqual(loops_in(library, goal, nodes), [])

    def test_which_triples_are_loops(self):
        for library, goal in goals():
            for nodes in programs_upto(library, goal, 4)[:12]:
                due = loops_in(library, goal, nodes)
                for outer in range(-1, len(nodes) + 1):
                    for inner in range(-1, len(nodes) + 1):
                        value = "loop", (Program(nodes), outer, inner)
                        self.assertIs(is_count_paper(library, goal, value), (outer, inner) in due)

    def test_ranks_one_by_one(self):
        for library, goal in goals():
            first = first_of(library, goal)
            if not is_endless(first):
                ranks = count_paper(library, goal)[1]
                names = {told(question): question for question in usable_of(first)}
                for question in ranks:
                    for rank in [0, 1, ranks[question] + 1, ranks[question] - 1, 10 ** 60 - 1, True, None, "1"]:
                        value = {**ranks, question: rank}
                        self.assertIs(is_count_paper(library, goal, ("ranks", value)),
                                      self.are_ranks(value, names, ranks_of(first)))
                    value = {one: ranks[one] for one in reversed(list(ranks)) if one != question}
                    self.assertIs(is_count_paper(library, goal, ("ranks", value)), False)

    def are_ranks(self, value, names, answered):
        if any(rank.__class__ is not int or rank < 1 for rank in value.values()):
            return False
        return all(value[told(one)] < rank for name, rank in value.items()
                   for several in choices_of(names[name]).values() if all(inner in answered for inner in several)
                   for one in several)

    def test_what_is_no_paper(self):
        ranks = count_paper(CONT, Type.plain("c"))[1]
        self.assertIs(is_count_paper(CONT, Type.plain("c"), ("ranks", ranks)), True)
        wrong = all_values() + [("ranks",), ["ranks", ranks], ("ranks", ranks, 1), ("loop", ranks), (ranks, "ranks"),
                                ("ranks", list(ranks.items())), ("ranks", {**ranks, FIRST: 1}), ("ranks", {}),
                                ("ranks", {**ranks, "a": 1}), ("loop", ()), ("loop", LOOP), ("Ranks", ranks)]
        for value in wrong:
            self.assertIs(is_count_paper(CONT, Type.plain("c"), value), False)
            self.assertIs(is_count_paper(CONT, Type.plain("c"), ("ranks", value)), False)
            self.assertIs(is_count_paper(NAT, N, ("loop", value)), False)
        for value in all_values():
            if value.__class__ is not int or value not in (0, 1):
                self.assertIs(is_count_paper(NAT, N, ("loop", (LOOP[0], value, 1))), False)
                self.assertIs(is_count_paper(NAT, N, ("loop", (LOOP[0], 0, value))), False)
            self.assertIs(is_count_paper(NAT, N, ("loop", (value, 0, 1))), False)
        for value in [list(LOOP), LOOP + (1,), (LOOP[0], 0), (LOOP[0], False, True), (LOOP[0], 1, 0), (LOOP[0], 0, 0),
                      (LOOP[0].nodes, 0, 1), (Program.read("s s"), 0, 1)]:
            self.assertIs(is_count_paper(NAT, N, ("loop", value)), False)

    def test_an_empty_paper_for_a_goal_without_programs(self):
        self.assertTrue(same(count_paper(PIPE, N), ("ranks", {})))
        self.assertIs(is_count_paper(PIPE, N, ("ranks", {})), True)
        self.assertIs(is_count_paper(PIPE, Type.read("a -> b"), ("ranks", {})), False)

    def test_loops_of_forty_nodes_and_more(self):
        lines = ["f : a -> a -> a -> b", "g : b -> b -> b -> c", "z : a", "s : a -> a"]
        library = Library.read(*lines, "h : c -> c -> b -> b -> b -> d")
        self.assertEqual([least_size(library, Type.plain("d")), count_paper(library, Type.plain("d"))[1][0].size],
                         [39, 40])
        more = Library.read(*lines, "h : c -> c -> c -> d")
        self.assertEqual([least_size(more, Type.plain("d")), count(more, Type.plain("d"))], [40, None])
        self.assertTrue(same(self.refused(TooMany, count_paper, more, Type.plain("d")).limit, 40))
        self.assertIs(is_count_paper(more, Type.plain("d"), ("ranks", {})), False)
        huge = doubling(6).with_part("y", Type.read("g -> g"))
        self.assertIs(count(huge, A), None)
        self.assertEqual(self.refused(TooMany, count_paper, huge, A).limit, 40)

    def test_loops_below_too_many_variables_are_none(self):
        """The only loop is below seven nodes that bind thirteen variables each, and those of the goal."""
        lines = [f"{name} : ({' -> '.join(['x'] * 13 + [inner])}) -> {outer}"
                 for name, inner, outer in zip("pqrstuv", LETTERS[1:], LETTERS)]
        library = Library.read(*lines, "z : h -> h")
        for many, size in [(7, 9), (8, 9), (9, None), (12, None)]:
            goal = Type.read(" -> ".join(["x"] * many + ["h", "a"]))
            self.assertIs(count(library, goal), None)
            if size:
                self.assertEqual([count_paper(library, goal)[1][0].size, count_of(library, goal, size)], [size, 1])
            else:
                self.assertEqual(self.refused(TooMany, count_paper, library, goal).limit, 40)
                self.assertEqual(count_of(library, goal, 9), 0)

    def test_too_many_questions(self):
        for call in [count_paper, lambda *two: is_count_paper(*two, None), lambda *two: is_count_paper(*two, ())]:
            self.assertTrue(same(self.refused(TooMany, call, wide(11), Q).limit, 2000))


class Pumped(Case):
    def test_against_programs_with_named_variables(self):
        many = 0
        for library, goal in goals():
            for nodes in programs_upto(library, goal, 5)[:60]:
                for outer, inner in loops_in(library, goal, nodes)[:4]:
                    self.judge(library, goal, nodes, outer, inner)
                    many += 1
        self.assertGreater(many, 300)

    def judge(self, library, goal, nodes, outer, inner):
        one = Program(nodes)
        more = one.end(outer) - outer - (one.end(inner) - inner)
        for times in range(4):
            found = pumped(library, goal, (one, outer, inner), times)
            self.assertEqual(found.nodes, Named(nodes).pumped(outer, inner, times))
            self.assertEqual(found.size, len(nodes) + times * more)
            self.assertIs(is_program(library, goal, found), True)
            self.assertEqual(question_at(library, goal, found, inner), question_at(library, goal, one, outer))

    def test_variables_move_with_their_binders(self):
        library = Library.read("f : (a -> a) -> a", "y : a")
        loop = (Program.read("f (\\x0. f (\\x1. x0))"), 0, 1)
        self.assertEqual(question_at(library, A, loop[0], 1), (("(a -> a) -> a", "a"), "a"))
        self.assertEqual([pumped(library, A, loop, times).text for times in range(3)],
                         ["f (\\x0. f (\\x1. x0))", "f (\\x0. f (\\x1. f (\\x2. x1)))",
                          "f (\\x0. f (\\x1. f (\\x2. f (\\x3. x2))))"])
        inner = (Program.read("f (\\x0. f (\\x1. f (\\x2. x0)))"), 1, 2)
        self.assertEqual(pumped(library, A, inner, 2).text, "f (\\x0. f (\\x1. f (\\x2. f (\\x3. f (\\x4. x0)))))")

    def test_forty_nodes_and_more(self):
        nodes = ((0, "s", 1),) * 3 + ((0, "z", 0),)
        one = Program(nodes)
        self.assertEqual(pumped(NAT, N, (one, 0, 3), 10).size, 34)
        five = Program(((0, "s", 1),) * 4 + nodes)
        self.assertTrue(same(self.refused(TooMany, pumped, NAT, N, (five, 0, 4), 9).limit, 40))
        self.assertEqual(pumped(NAT, N, (five, 0, 4), 8).size, 40)

    def test_more_variables_than_are_let(self):
        library = LEAVES.only("l")
        chain = Program(((0, "l", 1), (13, "l", 1), (13, "x0", 0)))
        loop = (chain, 1, 2)
        self.assertEqual(pumped(library, A, loop, 5).bound(7), 78)
        self.assertEqual(pumped(library, A, loop, 5).size, 8)
        self.refused(InvalidProgram, pumped, library, A, loop, 6)
        self.refused(InvalidProgram, pumped, library, A, loop, 10)

    def test_too_many_nodes_are_told_ahead_of_too_many_variables(self):
        lines = ["l : " + "(" + " -> ".join(["a"] * 12) + ") -> a -> a", "y : a"]
        library = Library.read(*lines)
        row = ((0, "l", 2), (11, "l", 2), (11, "y", 0), (0, "l", 2), (11, "l", 2), (11, "y", 0), (0, "y", 0),
               (0, "y", 0), (0, "y", 0))
        one = Program(row)
        loops = [pair for pair in loops_in(library, A, row) if pair[0] in (1,)]
        self.assertIn((1, 2), loops)
        self.assertEqual(one.end(1) - 1 - (one.end(2) - 2), 6)
        self.assertEqual(self.refused(TooMany, pumped, library, A, (one, 1, 2), 10).limit, 40)
        self.assertEqual(pumped(library, A, (one, 1, 2), 5).size, 39)

    def test_errors(self):
        for value in all_values() + [list(LOOP), LOOP[:2], LOOP + (0,), (LOOP[0], 0, True), (LOOP[0], 0, 2),
                                     (Program.read("z"), 0, 0), (Program.read("s s"), 0, 1), ("loop", LOOP)]:
            for times in [0, None, 11]:
                self.refused(InvalidOperation, pumped, NAT, N, value, times)
        for value in not_sizes(10):
            self.assertTrue(same(self.refused(InvalidNumber, pumped, NAT, N, LOOP, value).number, value))
        self.assertEqual(pumped(library=NAT, goal=N, loop=LOOP, times=0), LOOP[0])


class Unchanged(Case):
    def test_nothing_is_changed(self):
        paper = count_paper(CONT, Type.plain("c"))
        kept = copy.deepcopy(paper)
        is_count_paper(CONT, Type.plain("c"), paper)
        self.assertTrue(same(paper, kept))
        paper[1].clear()
        self.assertTrue(same(count_paper(CONT, Type.plain("c")), kept))

    def test_a_goal_has_programs_exactly_if_their_number_is_not_0(self):
        for library, goal in goals():
            self.assertIs(count(library, goal) != 0, builds(library, goal))


if __name__ == "__main__":
    unittest.main()
