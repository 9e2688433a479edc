import copy
import unittest

from fromparts.ask import questions
from fromparts.ask.questions import (MAX_QUESTIONS, Questions, built_paper, builds, heads_of, is_barred,
                                     is_built_paper, is_question, is_ranks, is_scope, question_of, subquestions)
from fromparts.base.libraries import Library
from fromparts.base.types import Type
from fromparts.errors import InvalidLibrary, InvalidQuestion, InvalidType, TooMany, UnknownWord
from cases import CONT, NAT, PIPE, Case, not_words, others, random_goals, sample_goals
from search import asked, choices_of, first_of, programs_upto, ranks_of, told, usable_of
from trees import text_of
from values import all_values, same

N = Type.plain("n")
C = Type.plain("c")
FIRST = (("n", "n -> n"), "n")


def goals():
    return sample_goals() + random_goals(1, 60) + random_goals(2, 30, parts=6, places=9, order=4)


def small_goals():
    return [(library, goal) for library, goal in goals() if len(asked(first_of(library, goal))) <= 60]


def wide(many):
    """A library in which q asks itself in each scope that has some of so many atoms: 2 ** many questions."""
    letters = "abcdefghijklmno"[:many]
    lines = [" -> ".join([f"({letter} -> q)" for letter in letters[at:at + 7]] + ["q"]) for at in range(0, many, 7)]
    return Library.read(*[f"{name} : {line}" for name, line in zip("stu", lines)])


# Each of the first three arguments brings one of five scopes, as c or d come in behind what brings them; the last
# part brings sixteen ones. So q is asked in 2000 scopes, and nothing else.
JUST = Library.read("s : (((c -> q) -> (d -> q) -> q) -> q) -> (((e -> q) -> (f -> q) -> q) -> q) -> q",
                    "t : (((g -> q) -> (h -> q) -> q) -> q) -> q",
                    "u : (i -> q) -> (j -> q) -> (k -> q) -> (l -> q) -> q")
Q = Type.plain("q")


class Interface(Case):
    def test_constant(self):
        self.assertTrue(same(MAX_QUESTIONS, 2000))

    def test_names_and_parameters(self):
        two = ["library", "goal"]
        for call, parameters in [(is_scope, ["value"]), (is_question, ["value"]), (question_of, two),
                                 (heads_of, ["question"]), (subquestions, ["question", "head"]), (builds, two),
                                 (Questions, two), (is_ranks, two + ["value"]), (is_barred, two + ["value"]),
                                 (built_paper, two), (is_built_paper, two + ["value"])]:
            self.assertEqual(call.__module__, "fromparts.ask.questions")
            self.assertIs(getattr(questions, call.__name__), call)
            self.assertEqual(self.parameters(call), parameters)
        one = Questions(NAT, N)
        for name, parameters in [("usable", []), ("whole", ["question"]), ("barring", ["question"]),
                                 ("after", ["question"])]:
            self.assertEqual(self.parameters(getattr(one, name)), parameters)

    def test_methods_stand_in_the_class_itself(self):
        for name in ["library", "goal", "first", "asks", "answered", "is_built", "ranks", "usable", "whole", "barring",
                     "after", "__contains__", "__len__", "__iter__", "__eq__", "__str__"]:
            self.assertIn(name, vars(Questions))

    def test_first_example(self):
        first = question_of(CONT, Type.read("c"))
        self.assertTrue(same([first, heads_of(first), subquestions(first, "(a -> b) -> c")],
                             [(("(a -> b) -> c", "b"), "c"), ("(a -> b) -> c",),
                              ((("(a -> b) -> c", "a", "b"), "b"),)]))

    def test_second_example(self):
        first = question_of(CONT, Type.read("c"))
        self.assertTrue(same([str(Questions(CONT, C)), Questions(CONT, C).ranks[first], str(Questions(PIPE, C)),
                              builds(NAT, N)],
                             ["2 asked, 2 answered, built", 2, "3 asked, 0 answered, barred", True]))

    def test_third_example(self):
        self.assertEqual(built_paper(PIPE, Type.read("c"))[0], "barred")


class Kinds(Case):
    """Scopes and questions as values."""

    def test_scopes(self):
        words = sorted({first + second for first in "abcdefghijkl" for second in "abcdefghijkl"})
        for value in [(), ("a",), ("(a -> b) -> c", "a", "a -> b", "b"), tuple(words[:140])]:
            self.assertIs(is_scope(value), True)
        wrong = [("b", "a"), ("a", "a"), ("A",), ("a", "b "), ("a", None), ("a", 1), ["a"], "a", {"a": 1},
                 (("a",),), ("a", "a->b"), ("(a)",), tuple(words[:141]), ("a -> (b)",), (Type.plain("a"),),
                 (" -> ".join(["a"] * 16),), ("((((a -> b) -> c) -> d) -> e) -> f",), ("x0",), (b"a",)]
        for value in wrong + [value for value in all_values() if value not in [(), ("a",)]]:
            self.assertIs(is_scope(value), False)
            self.assertIs(is_question((value, "a")), False)

    def test_questions(self):
        for value in [((), "a"), FIRST, (("a",), "abcdefgh")]:
            self.assertIs(is_question(value), True)
        for word in not_words():
            self.assertIs(is_question(((), word)), False)
        wrong = [((), "a", "b"), ((),), [(), "a"], ("a", ()), ((), ("a",)), ("a", "b")]
        for value in wrong + all_values():
            self.assertIs(is_question(value), False)

    def test_question_of(self):
        for library, goal in goals():
            self.assertTrue(same(question_of(library, goal), told(first_of(library, goal))))

    def test_heads_and_subquestions(self):
        for library, goal in small_goals():
            for question in asked(first_of(library, goal)):
                choices = choices_of(question)
                self.assertTrue(same(heads_of(told(question)), tuple(sorted(text_of(kind) for kind in choices))))
                for kind in choices:
                    due = tuple(told(one) for one in choices[kind])
                    self.assertTrue(same(subquestions(told(question), text_of(kind)), due))

    def test_equal_subquestions_come_several_times(self):
        inner = (("n", "n -> n -> n"), "n")
        self.assertTrue(same(subquestions(inner, "n -> n -> n"), (inner, inner)))

    def test_heads_and_subquestions_refuse(self):
        for value in all_values() + [(("b", "a"), "a"), ((), "A"), FIRST[0]]:
            self.refused(InvalidQuestion, heads_of, value)
            self.refused(InvalidQuestion, subquestions, value, None)
        for value in all_values() + ["m", "n  -> n", "n -> m", "(n)"]:
            self.assertTrue(same(self.refused(UnknownWord, subquestions, FIRST, value).asked, value))
        self.refused(UnknownWord, subquestions, (("a -> b", "n"), "n"), "a -> b")

    def test_question_of_refuses(self):
        for call in [question_of, builds, Questions, built_paper]:
            for value in others(Library):
                self.refused(InvalidLibrary, call, value, None)
                self.refused(InvalidLibrary, call, value, N)
            for value in others(Type):
                self.refused(InvalidType, call, NAT, value)


class Asked(Case):
    """The class Questions, against the plain search."""

    def test_asked_and_answered(self):
        for library, goal in small_goals():
            first = first_of(library, goal)
            one = Questions(library, goal)
            ranks = {told(question): rank for question, rank in ranks_of(first).items()}
            self.assertTrue(same(one.first, told(first)))
            self.assertTrue(same(one.asks, tuple(sorted(told(question) for question in asked(first)))))
            self.assertTrue(same(one.answered, tuple(sorted(ranks))))
            self.assertTrue(same(one.ranks, {question: ranks[question] for question in sorted(ranks)}))
            self.assertIs(one.is_built, told(first) in ranks)
            self.assertIs(builds(library, goal), told(first) in ranks)
            self.assertTrue(same(one.usable(), tuple(sorted(told(question) for question in usable_of(first)))))
            self.assertEqual([len(one), list(one), one.library, one.goal],
                             [len(one.asks), list(one.asks), library, goal])
            self.assertEqual(str(one), f"{len(one.asks)} asked, {len(ranks)} answered, "
                             + ("built" if told(first) in ranks else "barred"))

    def test_a_type_is_built_exactly_if_there_is_a_program(self):
        for library, goal in small_goals():
            found = programs_upto(library, goal, 5)
            if found:
                self.assertIs(builds(library, goal), True)
            first = first_of(library, goal)
            if first in ranks_of(first) and ranks_of(first)[first] <= 2:
                self.assertTrue(programs_upto(library, goal, 15) if not found else True)

    def test_whole_and_barring(self):
        for library, goal in small_goals():
            first = first_of(library, goal)
            one, answered = Questions(library, goal), ranks_of(first)
            for question in asked(first):
                choices = choices_of(question)
                whole = [text_of(kind) for kind in choices if all(inner in answered for inner in choices[kind])]
                others_there = [text_of(kind) for kind in choices if text_of(kind) not in whole]
                self.assertTrue(same(one.whole(told(question)), tuple(sorted(whole))))
                self.assertTrue(same(one.barring(told(question)), tuple(sorted(others_there))))

    def test_after(self):
        for library, goal in small_goals():
            one = Questions(library, goal)
            self.assertTrue(same(one.after(one.first), one.asks))
            for question in asked(first_of(library, goal)):
                due = tuple(sorted(told(inner) for inner in asked(question)))
                self.assertTrue(same(one.after(told(question)), due))

    def test_what_is_not_asked(self):
        one = Questions(NAT, N)
        wrong = all_values() + [((), "n"), (("n",), "n"), FIRST[0], (["n", "n -> n"], "n"), FIRST + ("n",),
                                (("n", "n -> n"), ["n"]), (("n", ["n"]), "n"), ({}, "n"), (("n", "n -> n"), "m")]
        for value in wrong:
            self.assertIs(value in one, False)
            for call in [one.whole, one.barring, one.after]:
                self.refused(InvalidQuestion, call, value)
        self.assertIs(FIRST in one, True)
        for library, goal in small_goals():
            one = Questions(library, goal)
            self.assertTrue(all(question in one for question in one))

    def test_equality(self):
        every = [Questions(library, goal) for library, goal in sample_goals()[:8]]
        for at, one in enumerate(every):
            for place, other in enumerate(every):
                self.assertIs(one == other, at == place)
                self.assertIs(one != other, at != place)
            for value in all_values():
                self.assertIs(one == value, False)
        self.assertIs(Questions(NAT, N) == Questions(NAT.renamed({"s": "s", "z": "z"}), N), True)
        self.assertIs(Questions(NAT, N) == Questions(NAT.renamed({"s": "z", "z": "s"}), N), False)

    def test_many_questions(self):
        for many in range(9, 13):
            library = wide(many)
            for call in [Questions, builds, built_paper]:
                if 2 ** many <= 2000:
                    call(library, Q)
                else:
                    self.assertTrue(same(self.refused(TooMany, call, library, Q).limit, 2000))
        self.assertEqual(len(Questions(wide(10), Q)), 1024)

    def test_two_thousand_questions_and_one_more(self):
        self.assertEqual(len(asked(first_of(JUST, Q))), 2000)
        self.assertEqual(str(Questions(JUST, Q)), "2000 asked, 0 answered, barred")
        self.assertEqual([builds(JUST, Q), len(built_paper(JUST, Q)[1])], [False, 2000])
        built = JUST.with_part("z", Q)
        self.assertEqual(str(Questions(built, Q)), "2000 asked, 2000 answered, built")
        more = JUST.with_part("z", Type.read("q -> r"))
        self.assertEqual(len(asked(first_of(more, Type.plain("r")))), 2001)
        for call in [Questions, builds, built_paper]:
            self.assertTrue(same(self.refused(TooMany, call, more, Type.plain("r")).limit, 2000))


class Papers(Case):
    def test_least_ranks_are_ranks(self):
        for library, goal in small_goals():
            one = Questions(library, goal)
            self.assertIs(is_ranks(library, goal, one.ranks), one.is_built)

    def test_papers(self):
        for library, goal in small_goals():
            one = Questions(library, goal)
            paper = built_paper(library, goal)
            self.assertEqual(paper.__class__, tuple)
            word, value = paper
            self.assertEqual(word, "ranks" if one.is_built else "barred")
            self.assertIs(is_built_paper(library, goal, paper), True)
            self.assertTrue(all(question in one for question in value))
            self.assertIs(is_ranks(library, goal, value), one.is_built)
            self.assertIs(is_barred(library, goal, value), not one.is_built)
            self.assertIs(is_built_paper(library, goal, ("barred" if one.is_built else "ranks", value)), False)
            if one.is_built:
                self.assertEqual(list(value), sorted(value))

    def test_ranks_one_by_one(self):
        """Each change of ranks is judged as the document says."""
        for library, goal in small_goals()[:60]:
            first = first_of(library, goal)
            ranks = ranks_of(first)
            if first in ranks:
                names = {told(question): question for question in ranks}
                for name in names:
                    for rank in [None, 1, ranks[names[name]] - 1, ranks[names[name]] + 1, 10 ** 60 - 1]:
                        value = {told(question): ranks[question] for question in reversed(list(ranks))}
                        if rank is None:
                            del value[name]
                        else:
                            value[name] = rank
                        self.assertIs(is_ranks(library, goal, value), self.are_ranks(value, names, first))

    def are_ranks(self, value, names, first):
        if told(first) not in value or any(rank < 1 for rank in value.values()):
            return False
        return all(any(all(told(one) in value and value[told(one)] < rank for one in several)
                       for several in choices_of(names[name]).values()) for name, rank in value.items())

    def test_what_are_no_ranks(self):
        ranks = Questions(NAT, N).ranks
        self.assertIs(is_ranks(NAT, N, ranks), True)
        for value in all_values() + [list(ranks.items()), {**ranks, "n": 1}, {**ranks, ((), "n"): 1}, {((), "n"): 1}]:
            self.assertIs(is_ranks(NAT, N, value), False)
            self.assertIs(is_built_paper(NAT, N, ("ranks", value)), False)
        for rank in all_values():
            if rank.__class__ is not int or not 1 <= rank < 10 ** 60:
                self.assertIs(is_ranks(NAT, N, {FIRST: rank}), False)
        self.assertIs(is_ranks(NAT, N, {FIRST: True}), False)
        self.assertIs(is_ranks(NAT, N, {FIRST: 10 ** 60 - 1}), True)
        self.assertIs(is_ranks(NAT, N, {FIRST: 10 ** 60}), False)

    def test_ranks_of_questions_that_are_not_asked(self):
        more = {(("a", "a -> b"), "b"): 2, (("a", "a -> b"), "a"): 1, FIRST: 5}
        self.assertIs(is_ranks(NAT, N, more), True)
        self.assertIs(is_built_paper(NAT, N, ("ranks", more)), True)
        self.assertIs(is_ranks(NAT, N, {**more, (("a", "a -> b"), "b"): 1}), False)
        self.assertIs(is_ranks(NAT, N, {**more, (("a -> b",), "b"): 9}), False)

    def test_barred_sets_one_by_one(self):
        """Each set of unanswered questions, and each with one answered question, is judged as the document says."""
        for library, goal in small_goals():
            first = first_of(library, goal)
            every = sorted(asked(first), key=told)
            if len(every) <= 6:
                for bits in range(1 << len(every)):
                    picked = [question for at, question in enumerate(every) if bits >> at & 1]
                    due = first in picked and all(any(one in picked for one in several) for question in picked
                                                  for several in choices_of(question).values())
                    value = tuple(told(question) for question in picked)
                    self.assertIs(is_barred(library, goal, value), due)
                    self.assertIs(is_built_paper(library, goal, ("barred", value)), due)
                    self.assertIs(is_barred(library, goal, list(value)), False)
                    if len(value) > 1:
                        self.assertIs(is_barred(library, goal, value[::-1]), False)

    def test_what_is_not_barred(self):
        value = built_paper(PIPE, C)[1]
        self.assertIs(is_barred(PIPE, C, value), True)
        wrong = all_values() + [value + value[-1:], value[::-1], (value,), value + (None,), value + ("a",), (),
                                value + ((("a",), "A"),), tuple(list(one) for one in value), {one: 1 for one in value}]
        for one in wrong:
            self.assertIs(is_barred(PIPE, C, one), False)
            self.assertIs(is_built_paper(PIPE, C, ("barred", one)), False)

    def test_barred_questions_that_are_not_asked(self):
        value = built_paper(PIPE, C)[1]
        more = tuple(sorted(value + (((), "n"), (("a -> b",), "b"), (("a -> b",), "a"))))
        self.assertIs(is_barred(PIPE, C, more), True)
        self.assertIs(is_barred(PIPE, C, tuple(sorted(value + ((("a -> b",), "b"),)))), False)

    def test_what_is_no_paper(self):
        ranks = Questions(NAT, N).ranks
        for value in all_values() + [("ranks",), ("ranks", ranks, 1), ["ranks", ranks], ("Ranks", ranks),
                                     (ranks, "ranks"), ("barred", ()), ("barred", (FIRST,)), (None, ranks)]:
            self.assertIs(is_built_paper(NAT, N, value), False)
        barred = built_paper(PIPE, C)[1]
        self.assertIs(is_built_paper(PIPE, C, ("barred", barred)), True)
        for word in ["Barred", "ranks", None, "", barred]:
            self.assertIs(is_built_paper(PIPE, C, (word, barred)), False)

    def test_judges_refuse_libraries_and_types(self):
        for call in [is_ranks, is_barred, is_built_paper]:
            for value in others(Library):
                self.refused(InvalidLibrary, call, value, None, None)
            for value in others(Type):
                self.refused(InvalidType, call, NAT, value, None)

    def test_judges_raise_nothing_for_many_questions(self):
        for call in [is_ranks, is_barred, is_built_paper]:
            self.assertIs(call(wide(12), Q, ()), False)


class Truths(Case):
    """[0.22], as far as it speaks of questions."""

    def test_more_parts_never_take_programs_away(self):
        for library, goal in small_goals():
            for name in library:
                if builds(library.without(name), goal):
                    self.assertIs(builds(library, goal), True)

    def test_parts_of_equal_types_ask_the_same(self):
        one = Library.read("f : a -> b", "g : a -> b", "y : a")
        self.assertEqual(Questions(one, Type.plain("b")).asks, Questions(one.without("g"), Type.plain("b")).asks)

    def test_nothing_is_changed(self):
        one = Questions(CONT, C)
        ranks = one.ranks
        ranks.clear()
        one.ranks[FIRST] = 1
        self.assertEqual([len(one.ranks), FIRST in one.ranks], [2, False])
        value = Questions(NAT, N).ranks
        kept = copy.deepcopy(value)
        is_ranks(NAT, N, value)
        is_built_paper(NAT, N, ("ranks", value))
        self.assertTrue(same(value, kept))
        built_paper(NAT, N)[1].clear()
        self.assertEqual(len(built_paper(NAT, N)[1]), 1)


if __name__ == "__main__":
    unittest.main()
