import copy
import random
import unittest

from fromparts.base.libraries import Library
from fromparts.base.programs import Program, is_program
from fromparts.base.types import Type
from fromparts.errors import InvalidLibrary, InvalidOperation, InvalidProgram, InvalidType, NoProgram, TooMany
from fromparts.put import order
from fromparts.put.order import (are_alike, cores, does_for, is_core, is_order_paper, is_parting, is_translation,
                                 lacking, order_paper, parting_goal, translated, translation)
from fromparts.put.putting import own_program, own_puts
from fromparts.room.rooms import Room, refusal
from cases import CONT, NAT, PIPE, Case, others, random_goals, sample_goals, some_library
from plain import is_built, plain_cores, plain_does
from search import is_borne, programs_upto, tree
from terms import plainly_put
from test_questions import JUST, Q, wide
from test_uses import DEEP, DEEP_GOAL, FORTY, FOUR
from values import all_values, same

N = Type.plain("n")
A = Type.plain("a")
SHORT = Library.read("h : a -> c")


def pairs():
    """Pairs of libraries over few atoms, of which many do for one another."""
    rand = random.Random(121)
    found = [(PIPE, SHORT), (SHORT, PIPE), (NAT, NAT), (NAT, CONT), (Library(), NAT), (NAT, Library()), (FOUR, PIPE),
             (PIPE, FOUR), (Library(), Library()), (FOUR, FOUR.only("f", "y")), (FOUR.only("f", "y"), FOUR)]
    for _ in range(110):
        places, atoms = rand.choice([(3, "a"), (3, "ab"), (4, "ab"), (5, "abc")])
        one, other = [some_library(rand, rand.randint(0, 4), places, 3, atoms) for _ in range(2)]
        found.extend([(one, other), (one, one | other.renamed({name: name + "q" for name in other}))])
    return found


def libraries():
    rand = random.Random(122)
    return [FOUR, NAT, PIPE, CONT, Library(), SHORT, Library.read("f : a -> a"),
            Library.read("f : a", "g : a -> a")] + [
        some_library(rand, rand.randint(1, 6), rand.choice([2, 3, 4]), 3, rand.choice(["a", "ab", "abc"]))
        for _ in range(90)]


def small_goals(library):
    """Small types over the atoms of a library, and those of its parts."""
    texts = ["{0}", "{0} -> {1}", "{1} -> {0}", "({0} -> {1}) -> {1}", "{0} -> {0}", "({0} -> {1}) -> {0} -> {1}"]
    words = list(library.atoms) or ["a"]
    return [Type.read(text.format(one, other)) for text in texts for one in words for other in words]


class Interface(Case):
    def test_names_and_parameters(self):
        two = ["one", "other"]
        for call, parameters in [(does_for, two), (are_alike, two), (lacking, two), (parting_goal, two),
                                 (is_parting, two + ["value"]), (translation, two), (is_translation, two + ["value"]),
                                 (translated, two + ["goal", "program", "told"]), (cores, ["library"]),
                                 (is_core, ["library", "value"]), (order_paper, two),
                                 (is_order_paper, two + ["value"])]:
            self.assertEqual(call.__module__, "fromparts.put.order")
            self.assertIs(getattr(order, call.__name__), call)
            self.assertEqual(self.parameters(call), parameters)

    def test_examples(self):
        short = Library.read("h : a -> c")
        self.assertTrue(same([does_for(PIPE, short), does_for(short, PIPE), lacking(short, PIPE),
                              translation(PIPE, short)["h"].text, is_parting(short, PIPE, Type.read("a -> b"))],
                             [True, False, ("f", "g"), "\\x0. g (f x0)", True]))
        self.assertTrue(same(cores(Library.read("f : a -> b", "g : a -> b", "y : a", "z : b")),
                             (("f", "y"), ("g", "y"), ("y", "z"))))


class Order(Case):
    def test_which_library_does_for_which(self):
        many = 0
        for one, other in pairs():
            due = plain_does(one, other)
            self.assertTrue(same([does_for(one, other), are_alike(one, other), are_alike(other, one)],
                                 [due, due and plain_does(other, one), due and plain_does(other, one)]))
            self.assertTrue(same(lacking(one, other), tuple(part for part in other
                                                            if not is_built(one, other[part]))))
            many += due
        self.assertGreater(many, 60)
        self.assertGreater(len(pairs()) - many, 60)

    def test_what_does_for_builds_all_types(self):
        """[0.19], and [12.1]: where it does not, some goal parts them."""
        for one, other in pairs():
            for goal in small_goals(other):
                if is_built(other, goal) and plain_does(one, other):
                    self.assertTrue(is_built(one, goal))
                self.assertIs(is_parting(one, other, goal), is_built(other, goal) and not is_built(one, goal))

    def test_parting_goals(self):
        for one, other in pairs():
            goal = parting_goal(one, other)
            if plain_does(one, other):
                self.assertIs(goal, None)
            else:
                self.assertEqual([is_built(other, goal), is_built(one, goal), is_parting(one, other, goal)],
                                 [True, False, True])

    def test_values_that_part_nothing(self):
        for value in others(Type) + ["a -> b", Type.read("a -> c"), Type.read("c"), Type.read("d -> d")]:
            self.assertIs(is_parting(SHORT, PIPE, value), False)
        self.assertIs(is_parting(SHORT, PIPE, Type.read("(a -> b) -> a -> b")), False)
        self.assertIs(is_parting(SHORT, PIPE, Type.read("d -> b -> c")), True)


class Translations(Case):
    def test_translations(self):
        for one, other in pairs():
            if not plain_does(one, other):
                first = next(part for part in other if not is_built(one, other[part]))
                self.assertTrue(same(self.refused(NoProgram, translation, one, other).wanted, other[first].text))
                continue
            told = translation(one, other)
            self.assertEqual(list(told), list(other.names))
            for part in other:
                self.assertIs(is_program(one, other[part], told[part]), True)
            self.assertIs(is_translation(one, other, told), True)
            self.check_near(one, other, told)

    def check_near(self, one, other, told):
        """Values near a translation that are none."""
        self.assertIs(is_translation(one, other, dict(reversed(list(told.items())))), True)
        for name in told:
            self.assertIs(is_translation(one, other, {part: told[part] for part in told if part != name}), False)
            for wrong in [None, told[name].nodes, told[name].text, Program.read("qq")]:
                self.assertIs(is_translation(one, other, {**told, name: wrong}), False)
        self.assertIs(is_translation(one, other, {**told, "zz": Program.read("qq")}), False)
        self.assertIs(is_translation(one, other, tuple(told.items())), False)

    def test_translations_of_others(self):
        """All small programs make translations."""
        for one, other in pairs()[:60]:
            found = {part: [Program(nodes) for nodes in programs_upto(one, other[part], 4)[:3]] for part in other}
            if all(found.values()):
                for at in range(3):
                    told = {part: found[part][at % len(found[part])] for part in other}
                    self.assertIs(is_translation(one, other, told), True)
        for value in all_values():
            self.assertIs(is_translation(NAT, NAT, value), False)
            self.assertIs(is_translation(NAT, Library(), value), value == {})

    def test_translated(self):
        many = 0
        for one, other in pairs():
            if plain_does(one, other):
                told = translation(one, other)
                for goal in small_goals(other)[:8]:
                    for nodes in programs_upto(other, goal, 4)[:4]:
                        due = plainly_put(nodes, {name: told[name].nodes for name in told})
                        if len(due) <= 40:
                            found = translated(one, other, goal, Program(nodes), told)
                            self.assertTrue(same(found.nodes, due))
                            self.assertIs(is_program(one, goal, found), True)
                            many += 1
        self.assertGreater(many, 200)

    def test_the_same_word_in_both_libraries(self):
        one, other = Library.read("f : b", "g : a"), Library.read("f : a", "h : b")
        told = {"f": Program.read("g"), "h": Program.read("f")}
        self.assertEqual(translated(one, other, A, Program.read("f"), told).text, "g")
        self.assertEqual(translated(one, other, Type.plain("b"), Program.read("h"), told).text, "f")

    def test_own_programs_translate_into_the_same(self):
        for library, goal in sample_goals() + random_goals(123, 30):
            for nodes in programs_upto(library, goal, 5)[:5]:
                one = Program(nodes)
                self.assertTrue(translated(library, library, goal, one, own_puts(library)) == one)

    def test_forty_nodes_and_forty_one(self):
        self.assertEqual(translation(FORTY, Library.read("q : d"))["q"].size, 40)
        self.assertEqual(self.refused(TooMany, translation, FORTY, Library.read("q : d", "r : e")).limit, 40)
        self.assertEqual(self.refused(TooMany, order_paper, FORTY, Library.read("q : e")).limit, 40)
        self.assertEqual(self.refused(NoProgram, translation, FORTY, Library.read("p : e", "q : z")).wanted, "z")
        told = {"q": translation(FORTY, Library.read("q : d"))["q"]}
        more = FORTY.with_part("k", Type.read("d -> d"))
        other = Library.read("q : d", "r : d -> d")
        told = {"q": told["q"], "r": Program.read("\\x0. k x0")}
        self.assertEqual(translated(more, other, Type.plain("d"), Program.read("q"), told).size, 40)
        self.assertTrue(same(self.refused(TooMany, translated, more, other, Type.plain("d"), Program.read("r q"),
                                          told).limit, 40))

    def test_more_than_a_hundred_variables(self):
        self.assertEqual(translation(DEEP, Library({"p": DEEP_GOAL}))["p"].size, 21)
        self.assertEqual(self.refused(TooMany, translation, DEEP.without("q"), Library({"p": DEEP_GOAL})).limit, 40)


class Cores(Case):
    def test_cores(self):
        several = 0
        for library in libraries():
            due = plain_cores(library)
            self.assertTrue(same(cores(library), due))
            several += len(due) > 1
            for row in [value for value in rows_near(library, due)]:
                self.assertIs(is_core(library, row), row in due)
        self.assertGreater(several, 10)

    def test_cores_of_eight_parts(self):
        eight = Library({name: A for name in "abcdefgh"})
        self.assertTrue(same(cores(eight), tuple((name,) for name in "abcdefgh")))
        pairs_of_eight = Library({name: Type.plain("abcd"[at // 2]) for at, name in enumerate("abcdefgh")})
        due = tuple(sorted((one, two, three, four) for one in "ab" for two in "cd" for three in "ef" for four in "gh"))
        self.assertTrue(same(cores(pairs_of_eight), due))
        alone = Library({name: Type.plain(name) for name in "abcdefgh"})
        self.assertTrue(same(cores(alone), (tuple("abcdefgh"),)))

    def test_parts_that_are_built_of_nothing(self):
        self.assertTrue(same([cores(Library()), cores(Library.read("f : a -> a"))], [((),), ((),)]))
        self.assertEqual([is_core(Library(), ()), is_core(Library.read("f : a -> a"), ())], [True, True])

    def test_what_is_no_core(self):
        for value in all_values() + [("y", "f"), ["f", "y"], ("f", "f", "y"), ("f", "g", "y"), ("f",), ("f", "z"),
                                     ("f", "y", "q"), {"f": 1, "y": 2}, "fy", ("f", ["y"]), (("f", "y"),)]:
            self.assertIs(is_core(FOUR, value), False)
        self.assertIs(is_core(FOUR, ("f", "y")), True)

    def test_cores_do_for_the_library(self):
        for library in libraries():
            for row in cores(library):
                self.assertTrue(does_for(library.only(*row), library))
                for name in row:
                    self.assertFalse(does_for(library.only(*row).without(name), library))


def rows_near(library, found):
    """All rows of parts of a small library, or rows near some of a larger one."""
    names = library.names
    rows = [()]
    for name in names:
        rows = rows + [row + (name,) for row in rows]
    return rows if len(names) <= 5 else rows[::3] + list(found)


class Papers(Case):
    def test_papers(self):
        seen = set()
        for one, other in pairs():
            paper = order_paper(one, other)
            seen.add(paper[0])
            self.assertEqual(paper[0], "does" if plain_does(one, other) else "parts")
            self.assertIs(is_order_paper(one, other, paper), True)
            if paper[0] == "does":
                self.assertIs(is_translation(one, other, paper[1]), True)
            else:
                _, goal, program, room = paper
                self.assertIs(is_program(other, goal, program), True)
                self.check_room(one, goal, room)
            self.check_near(one, other, paper)
        self.assertEqual(seen, {"does", "parts"})

    def check_room(self, library, goal, room):
        """That some world bears all parts and not the goal, word for word as the document says it."""
        self.assertTrue(any(
            all(is_borne(room.reach, room.truths, world, tree(library[part])) for part in library)
            and not is_borne(room.reach, room.truths, world, tree(goal)) for world in range(len(room))))

    def check_near(self, one, other, paper):
        for value in [list(paper), paper[1:], paper + (None,), paper[:-1], (None,) + paper[1:], paper[0], paper[1],
                      ({"does": "parts", "parts": "does"}[paper[0]],) + paper[1:]]:
            self.assertIs(is_order_paper(one, other, value), False)
        for at in range(1, len(paper)):
            for wrong in [None, 1, "a", Type.read("qq"), Program.read("qq"), self.full_room(one, other), {"qq": 1}]:
                self.assertIs(is_order_paper(one, other, paper[:at] + (wrong,) + paper[at + 1:]), False)

    def full_room(self, one, other):
        """A room in which everything is borne."""
        return Room(((0,),), (tuple(sorted(set(one.atoms) | set(other.atoms))),))

    def test_papers_of_others(self):
        """Any goal that parts the libraries, any program of it, and any room that refuses it."""
        for one, other in pairs()[:120]:
            if plain_does(one, other):
                continue
            for goal in [goal for goal in small_goals(other) if is_built(other, goal)][:6]:
                for nodes in programs_upto(other, goal, 4)[:2]:
                    if is_built(one, goal):
                        room = order_paper(one, other)[3]
                        self.assertIs(is_order_paper(one, other, ("parts", goal, Program(nodes), room)), False)
                    else:
                        room = refusal(one, goal)
                        self.assertIs(is_order_paper(one, other, ("parts", goal, Program(nodes), room)), True)
                        larger = room.beside(Room(((0,),), (("zzz",),)))
                        self.assertIs(is_order_paper(one, other, ("parts", goal, Program(nodes), larger)), True)

    def test_every_value_is_judged(self):
        for value in all_values():
            for paper in [value, ("does", value), ("parts", value, value, value), ("parts", A, value, value),
                          ("parts", Type.read("a -> b"), Program.read("\\x0. f x0"), value)]:
                self.assertIs(is_order_paper(SHORT, PIPE, paper), False)
        self.assertIs(is_order_paper(NAT, Library(), ("does", {})), True)


class Errors(Case):
    def test_libraries(self):
        for call in [does_for, are_alike, lacking, parting_goal, translation, order_paper,
                     lambda *two: is_parting(*two, None), lambda *two: is_translation(*two, None),
                     lambda *two: is_order_paper(*two, None), lambda *two: translated(*two, None, None, None)]:
            for value in others(Library):
                self.refused(InvalidLibrary, call, value, None)
                self.refused(InvalidLibrary, call, value, NAT)
                self.refused(InvalidLibrary, call, NAT, value)
        for value in others(Library):
            self.refused(InvalidLibrary, cores, value)
            self.refused(InvalidLibrary, is_core, value, ())

    def test_translated(self):
        one, told = Program.read("\\x0. h x0"), {"h": Program.read("\\x0. g (f x0)")}
        goal = Type.read("a -> c")
        self.assertEqual(translated(PIPE, SHORT, goal, one, told).text, "\\x0. g (f x0)")
        self.assertEqual(translated(one=PIPE, other=SHORT, goal=goal, program=one, told=told).size, 3)
        for value in others(Type):
            self.refused(InvalidType, translated, PIPE, SHORT, value, None, None)
        for value in others(Program) + [Program.read("h"), Program.read("\\x0. x0"), Program.read("\\x0. g (f x0)")]:
            self.refused(InvalidProgram, translated, PIPE, SHORT, goal, value, None)
        for value in all_values() + [{}, {"h": Program.read("\\x0. h x0")}, {**told, "f": Program.read("\\x0. f x0")},
                                     {"h": None}, ("h",), list(told.items())]:
            self.refused(InvalidOperation, translated, PIPE, SHORT, goal, one, value)

    def test_too_many_questions(self):
        many = wide(11)
        asking = Library({"p": Q})
        for call in [does_for, are_alike, lacking, parting_goal, translation, order_paper]:
            self.assertTrue(same(self.refused(TooMany, call, many, asking).limit, 2000))
            for value in others(Library)[:5]:
                self.refused(InvalidLibrary, call, many, value)
        self.assertTrue(same(self.refused(TooMany, is_parting, many, asking, Q).limit, 2000))
        self.assertTrue(same(self.refused(TooMany, cores, many.with_part("z", Q)).limit, 2000))
        self.assertTrue(same(self.refused(TooMany, is_core, many.with_part("z", Q), ("s", "t")).limit, 2000))
        self.assertEqual([does_for(JUST, asking), lacking(JUST, asking), parting_goal(JUST, asking).text],
                         [False, ("p",), "q"])
        self.assertEqual(order_paper(JUST, asking)[0], "parts")
        self.assertEqual(does_for(JUST.with_part("z", Q), asking), True)
        # Judging a translation, and what it leads to, asks no questions.
        good = many.with_part("z", Q)
        self.assertIs(is_translation(good, asking, {"p": Program.read("z")}), True)
        self.assertIs(is_order_paper(good, asking, ("does", {"p": Program.read("z")})), True)
        self.assertEqual(translated(good, asking, Q, Program.read("p"), {"p": Program.read("z")}).text, "z")
        self.assertIs(is_parting(many, asking, "q"), False)


class Unchanged(Case):
    def test_nothing_is_changed(self):
        told = translation(NAT, NAT)
        kept = {name: told[name].text for name in told}
        told["s"] = told["z"]
        told.clear()
        self.assertEqual({name: one.text for name, one in translation(NAT, NAT).items()}, kept)
        paper = order_paper(NAT, NAT)
        paper[1].clear()
        self.assertEqual(list(order_paper(NAT, NAT)[1]), ["s", "z"])
        given = {"s": own_program(NAT, "s"), "z": [1]}
        ahead = copy.deepcopy(given["z"])
        is_translation(NAT, NAT, given)
        is_order_paper(NAT, NAT, ("does", given))
        self.assertEqual([list(given), given["z"]], [["s", "z"], ahead])


if __name__ == "__main__":
    unittest.main()
