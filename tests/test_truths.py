"""The statements of [0.22], which are true, and of [0.23], which are not, over all stages that they speak of."""

import itertools
import random
import unittest

from fromparts.ask.building import plan_of, shortest
from fromparts.ask.questions import Questions, builds, question_of, subquestions
from fromparts.base.libraries import Library
from fromparts.base.programs import Program, is_program
from fromparts.base.types import Type
from fromparts.count.counts import count, counts_upto
from fromparts.count.listing import all_programs
from fromparts.part.uses import surplus_parts, use_of
from fromparts.put.order import does_for
from fromparts.room.rooms import Room, is_refusal, refusal
from cases import CONT, NAT, PIPE, TWO, Case, random_goals, sample_goals, some_type
from plain import is_built
from search import asked, first_of, programs_upto

A = Type.plain("a")


def goals():
    found = sample_goals() + random_goals(141, 60) + random_goals(142, 40, parts=3, places=4, order=3, atoms="ab")
    return [(library, goal) for library, goal in found if len(asked(first_of(library, goal))) <= 40]


def rooms_with_one_world(atoms):
    return [Room(((0,),), (row,)) for many in range(len(atoms) + 1) for row in itertools.combinations(atoms, many)]


def small_rooms(rand, atoms, many):
    """Some rooms of up to four worlds, told by what is directly above each."""
    found = rooms_with_one_world(atoms)
    for _ in range(many):
        worlds = rand.randint(2, 4)
        above = [{world} for world in range(worlds)]
        for world in range(worlds - 1, -1, -1):
            for other in range(world + 1, worlds):
                if rand.random() < 0.5:
                    above[world] |= above[other]
        truths = [set(rand.sample(atoms, rand.randint(0, len(atoms)))) for _ in range(worlds)]
        for world in range(worlds):
            for other in above[world]:
                truths[other] |= truths[world]
        found.append(Room(tuple(tuple(sorted(row)) for row in above), tuple(tuple(sorted(row)) for row in truths)))
    return found


class TrueOnes(Case):
    def test_more_parts_never_take_programs_away(self):
        rand = random.Random(1)
        for library, goal in goals():
            if len(library) < 8:
                more = library.with_part("zz", some_type(rand, 4, 2, "abc"))
                found = programs_upto(library, goal, 5)
                self.assertTrue(all(is_program(more, goal, Program(nodes)) for nodes in found))
                self.assertTrue(builds(more, goal) or not builds(library, goal))
                self.assertTrue(does_for(more, library))
                if builds(library, goal):
                    self.assertLessEqual(shortest(more, goal).size, shortest(library, goal).size)
                self.assertTrue(all(one <= other for one, other in zip(counts_upto(library, goal, 4),
                                                                       counts_upto(more, goal, 4))))

    def test_types_of_equal_texts_stand_for_one_another(self):
        """A head is exchanged for another one of the same type that is in scope there."""
        for library, goal in goals():
            more = library.with_part("zz", library["f"]) if "f" in library and len(library) < 8 else library
            for nodes in programs_upto(more, goal, 4)[:10]:
                for at, (binders, head, many) in enumerate(nodes):
                    if head in ("f", "zz"):
                        for other in ("f", "zz"):
                            changed = nodes[:at] + ((binders, other, many),) + nodes[at + 1:]
                            self.assertTrue("zz" not in more or is_program(more, goal, Program(changed)))
        twice = Type.read("(n -> n) -> (n -> n) -> n -> n")
        self.assertEqual(len(programs_upto(Library(), twice, 3)), 1 + 2 + 4)
        self.assertEqual([question_of(Library(), twice), question_of(NAT, Type.read("(n -> n) -> n -> n"))],
                         [(("n", "n -> n"), "n")] * 2)

    def test_renaming_renames_the_programs(self):
        for library, goal in goals():
            words = {name: "zyxwvuts"[at] + "k" for at, name in enumerate(library)}
            atoms = sorted(set(library.atoms) | set(goal.atoms))
            others = dict(zip(atoms, ["q" + word for word in reversed(atoms)]))
            other = library.with_atoms({word: others[word] for word in library.atoms}).renamed(words)
            wish = goal.renamed({word: others[word] for word in goal.atoms})
            due = {one.renamed(words).nodes for one in all_programs(library, goal, most=5)}
            self.assertEqual({one.nodes for one in all_programs(other, wish, most=5)}, due)
            self.assertEqual([builds(other, wish), count(other, wish)], [builds(library, goal), count(library, goal)])

    def test_what_has_a_program_is_borne_where_the_parts_are(self):
        rand = random.Random(2)
        borne = 0
        for library, goal in goals():
            atoms = sorted(set(library.atoms) | set(goal.atoms))
            if builds(library, goal):
                for room in small_rooms(rand, atoms, 12):
                    self.assertEqual(room.refusing(library, goal), ())
                    self.assertIs(is_refusal(library, goal, room), False)
                    borne += len(room.bearing(*library.parts.values()))
            else:
                self.assertIs(is_refusal(library, goal, refusal(library, goal)), True)
        self.assertGreater(borne, 500)


class FalseOnes(Case):
    def test_two_surplus_parts_can_be_taken_away_together(self):
        library = Library.read("f : a -> b", "y : a", "z : b", "w : b")
        self.assertEqual(surplus_parts(library), ("f", "w", "z"))
        left = library.without("f", "w")
        self.assertTrue(does_for(left, library))
        self.assertFalse(does_for(library.without("f", "w", "z"), library))
        two = Library.read("w : b", "z : b")
        self.assertEqual([surplus_parts(two), does_for(two.without("w", "z"), two)], [("w", "z"), False])

    def test_a_part_that_the_shortest_program_uses_is_used_by_every_program(self):
        library = Library.read("f : a -> b", "y : a", "z : b")
        self.assertEqual([shortest(library, Type.plain("b")).parts, use_of(library, Type.plain("b"), "z")],
                         [("z",), "some"])
        self.assertEqual(shortest(library.without("z"), Type.plain("b")).text, "f y")

    def test_what_is_borne_in_all_rooms_with_one_world_has_a_program(self):
        peirce = Type.read("((a -> b) -> a) -> a")
        for room in rooms_with_one_world("abc"):
            self.assertEqual(room.refusing(Library(), peirce), ())
        self.assertEqual([builds(Library(), peirce), is_built(Library(), peirce)], [False, False])
        self.assertGreater(len(refusal(Library(), peirce)), 1)

    def test_a_type_is_endless_if_some_question_that_comes_up_can_come_up_within_itself(self):
        library = Library.read("z : a", "f : a -> q -> a")
        questions = Questions(library, A)
        self.assertIn(questions.first, subquestions(questions.first, "a -> q -> a"))
        self.assertEqual([count(library, A), counts_upto(library, A, 6)], [1, (0, 1, 0, 0, 0, 0, 0)])

    def test_the_number_of_programs_depends_only_on_the_set_of_types_in_scope(self):
        one, two = Library.read("y : a"), Library.read("y : a", "z : a")
        self.assertEqual([question_of(one, A) == question_of(two, A), count(one, A), count(two, A)], [True, 1, 2])
        one, two = Type.read("a -> a"), Type.read("a -> a -> a")
        self.assertEqual([question_of(Library(), one) == question_of(Library(), two), count(Library(), one),
                          count(Library(), two)], [True, 1, 2])


class Together(Case):
    """[0.16] and [0.17] on the sample libraries."""

    def test_shown_by_ranks_programs_and_rooms(self):
        for library, goal in goals():
            self.assertEqual(builds(library, goal), is_built(library, goal))
            if builds(library, goal):
                self.assertTrue(is_program(library, goal, shortest(library, goal)))
                self.assertIsNotNone(plan_of(library, goal, shortest(library, goal)))
        self.assertEqual([count(NAT, Type.plain("n")), count(PIPE, Type.read("a -> c")), count(CONT, Type.plain("c")),
                          count(TWO, Type.plain("n"))], [None, 1, 1, None])


if __name__ == "__main__":
    unittest.main()
