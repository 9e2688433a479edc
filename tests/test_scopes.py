import unittest
from unittest import mock

from fromparts.ask.asking import least_ranks
from fromparts.ask.questions import Questions, builds
from fromparts.ask.scopes import Scopes
from fromparts.base.types import Type
from fromparts.count.counts import count
from fromparts.count.totals import number_from
from fromparts.errors import TooMany
from cases import CONT, NAT, Case, random_goals, sample_goals
from test_questions import JUST, Q, wide
from values import all_values, same


def kinds_of(library):
    return list(library.parts.values())


class Scoped(Case):
    """Questions with scopes that are integers, against those with texts."""

    def goals(self):
        return sample_goals() + random_goals(421, 120) + random_goals(422, 60, parts=5, places=4, order=2, atoms="ab")

    def test_which_types_are_built(self):
        scopes = Scopes()
        for library, goal in self.goals() * 2:
            scopes.tidy()
            first = scopes.question(kinds_of(library), goal)
            self.assertIs(scopes.is_answered(first), builds(library, goal))

    def test_what_is_given_up_is_found_out_again(self):
        with mock.patch("fromparts.ask.scopes.MAX_KINDS", 6), mock.patch("fromparts.ask.scopes.MAX_ANSWERS", 3):
            self.test_which_types_are_built()

    def test_as_many_questions_are_asked_and_answered(self):
        scopes = Scopes()
        for library, goal in self.goals():
            due = Questions(library, goal)
            first = scopes.question(kinds_of(library), goal)
            choices = scopes.choices_from(first)
            self.assertEqual([len(choices), len(least_ranks(choices))], [len(due), len(due.answered)])
            self.assertEqual(sorted(text for text, _ in choices[first]),
                             sorted(due.whole(due.first) + due.barring(due.first)))

    def test_numbers_of_programs(self):
        scopes = Scopes()
        for library, goal in self.goals():
            heads = kinds_of(library) + list(goal.inputs)
            first = scopes.question(kinds_of(library), goal)
            texts = [one.text for one in heads]
            self.assertTrue(same(number_from(scopes, scopes.choices_from(first), first, texts), count(library, goal)))

    def test_too_many_questions(self):
        scopes = Scopes()
        more = kinds_of(JUST.with_part("w", Type.read("q -> y")))
        for _ in range(2):
            # Two thousand are let, and one more are too many, though all but this one have been asked.
            self.assertIs(scopes.is_answered(scopes.question(more, Q)), False)
            for kinds, goal in [(more, Type.plain("y")), (kinds_of(wide(11)), Q), (more, Type.read("m -> y"))]:
                first = scopes.question(kinds, goal)
                self.assertTrue(same(self.refused(TooMany, scopes.is_answered, first).limit, 2000))
                self.assertTrue(same(self.refused(TooMany, scopes.choices_from, first).limit, 2000))

    def test_types_by_their_texts(self):
        scopes = Scopes()
        for text in ["a", "a -> b", "(a -> b) -> c", "a"]:
            self.assertTrue(scopes.kind(text) == Type.read(text))
        for value in [value for value in all_values() if value.__class__ is not str] + ["", "A", "(a)", "a -> (b)"]:
            self.assertIs(scopes.kind(value), None)
        self.assertIs(scopes.is_answered(scopes.question([], Type.plain("a"))), False)
        self.assertIs(scopes.is_answered(scopes.question(kinds_of(NAT), Type.read("n"))), True)
        self.assertIs(scopes.is_answered(scopes.question(kinds_of(CONT), Type.read("a"))), False)


if __name__ == "__main__":
    unittest.main()
