import itertools
import random
import unittest

from fromparts.base.libraries import Library
from fromparts.base.programs import Program, is_program
from fromparts.base.types import Type
from fromparts.errors import (InvalidDraft, InvalidLibrary, InvalidNumber, InvalidOperation, InvalidProgram,
                              InvalidType, NoProgram, ParseError, TooMany, UnknownWord)
from fromparts.use import drafts
from fromparts.use.drafts import MAX_GAPS, Draft
from cases import CONT, LAMBDA, NAT, PIPE, TWO, Case, not_sizes, others, random_goals, sample_goals
from partial import (GAP, gaps_in, partials_upto, plain_choices, plain_common, plain_fits, plain_good, plain_ways,
                     plain_wider, question_at)
from search import asked, first_of, programs_upto, told
from test_building import doubling, sizes_of
from test_counts import LEAVES
from test_programs import plain_text
from test_questions import JUST, Q, wide
from test_uses import FORTY
from values import all_values, same

N = Type.plain("n")
A = Type.plain("a")
C = Type.plain("c")
# A part with five arguments, so that drafts have many gaps.
FIVE = Library.read("p : n -> n -> n -> n -> n -> n", "s : n -> n", "z : n", "l : (n -> n) -> n", "t : n -> n -> n")


def goals():
    found = sample_goals() + random_goals(151, 50, parts=3, places=4, order=3, atoms="ab")
    found += random_goals(152, 30, parts=4, places=5)
    return [(library, goal) for library, goal in found
            if len(asked(first_of(library, goal))) <= 20 and len(partials_upto(library, goal, 4)) <= 400]


def sample_drafts(size=4, most=12):
    """Libraries, goals and the nodes of some small drafts."""
    rand = random.Random(3)
    found = []
    for library, goal in goals():
        every = partials_upto(library, goal, size)
        found.append((library, goal, every if len(every) <= most else rand.sample(every, most)))
    return found


def comb(many):
    """The nodes of a draft of FIVE with just so many gaps."""
    if many == 0:
        return ((0, "z", 0),)
    if many == 1:
        return ((0, GAP, 0),)
    left = min(many, 5)
    row = ((0, "p", 5),)
    rest = many - 4
    for at in range(5):
        if at < 4:
            row += ((0, GAP, 0),) if at < left else ((0, "z", 0),)
        else:
            row += comb(max(rest, 0))
    return row


def plain_draft(library, goal, nodes):
    """Whether these nodes are those of a draft, by the plain search for all of that size."""
    return nodes in set(partials_upto(library, goal, len(nodes)))


class Interface(Case):
    def test_constant(self):
        self.assertTrue(same(MAX_GAPS, 20))

    def test_names_and_parameters(self):
        self.assertEqual(Draft.__module__, "fromparts.use.drafts")
        self.assertEqual(self.parameters(Draft), ["library", "goal", "nodes"])
        self.assertIs(drafts.Draft, Draft)
        one = Draft(NAT, N)
        for name, parameters in [("read", ["library", "goal", "text"]), ("can_finish", []), ("ways_to_finish", []),
                                 ("question", ["place"]), ("choices", ["place"]), ("good_choices", ["place"]),
                                 ("fill", ["place", "head"]), ("put", ["place", "other"]), ("reopen", ["place"]),
                                 ("program", []), ("finish", []), ("is_of", ["program"]), ("common_with", ["other"]),
                                 ("wider_with", ["other"]), ("is_within", ["other"])]:
            self.assertEqual(self.parameters(getattr(one, name)), parameters)

    def test_methods_stand_in_the_class_itself(self):
        for name in ["read", "library", "goal", "nodes", "text", "gaps", "is_whole", "can_finish", "ways_to_finish",
                     "question", "choices", "good_choices", "fill", "put", "reopen", "program", "finish", "is_of",
                     "common_with", "wider_with", "is_within", "__len__", "__getitem__", "__iter__", "__eq__",
                     "__str__"]:
            self.assertIn(name, vars(Draft))

    def test_first_example(self):
        draft = Draft(PIPE, Type.read("a -> c"))
        self.assertTrue(same([draft.text, draft.choices(0), draft.fill(0, "g").text, draft.fill(0, "g").choices(1),
                              draft.ways_to_finish(), draft.finish().text],
                             ["\\x0. ?", ("g",), "\\x0. g ?", ("f",), 1, "\\x0. g (f x0)"]))

    def test_second_example(self):
        two = Draft.read(NAT, Type.plain("n"), "s (s ?)")
        self.assertTrue(same([two.ways_to_finish(), two.finish().text, two.reopen(1).text,
                              two.wider_with(two.put(2, ((0, "z", 0),))).text,
                              two.put(2, ((0, "z", 0),)).is_within(two), two.question(2)],
                             [None, "s (s z)", "s ?", "s (s ?)", True, (("n", "n -> n"), "n")]))


class Making(Case):
    def test_all_small_drafts(self):
        for library, goal in goals():
            for nodes in partials_upto(library, goal, 4):
                one = Draft(library, goal, nodes)
                gaps = tuple(at for at, node in enumerate(nodes) if node[1] == GAP)
                self.assertTrue(same([one.nodes, one.gaps, one.is_whole, len(one), list(one)],
                                     [nodes, gaps, not gaps, len(nodes), list(nodes)]))
                self.assertTrue(one.library == library and one.goal == goal)
                self.assertTrue(same([one[place] for place in range(len(nodes))], list(nodes)))
                text = plain_text(nodes)[0]
                self.assertTrue(same([one.text, str(one)], [text, text]))
                self.assertTrue(Draft.read(library, goal, text) == one)

    def test_one_gap(self):
        for library, goal in goals():
            one = Draft(library, goal)
            self.assertTrue(same(one.nodes, ((len(goal.inputs), GAP, 0),)))
            self.assertTrue(one == Draft(library, goal, None) == Draft(library=library, goal=goal, nodes=one.nodes))

    def test_which_rows_make_drafts(self):
        heads = [(0, GAP, 0), (1, GAP, 0), (0, "z", 0), (0, "s", 1), (1, "x0", 0), (0, "x0", 0), (0, "l", 1),
                 (0, GAP, 1),
                 (1, "s", 1)]
        library = NAT.with_part("l", Type.read("(n -> n) -> n"))
        for goal in [N, Type.read("n -> n")]:
            every = set(partials_upto(library, goal, 4))
            for many in range(5):
                for row in itertools.product(heads, repeat=many):
                    if row in every:
                        self.assertEqual(Draft(library, goal, row).nodes, row)
                    else:
                        self.refused(InvalidDraft, Draft, library, goal, row)

    def test_values_that_are_no_nodes(self):
        for value in [value for value in all_values() if value is not None] + [
                [(0, "z", 0)], ([0, "z", 0],), ((0, "z"),), ((0, "z", 0, 0),), ((False, "z", 0),), ((0, "q", 0),),
                ((0, ["?"], 0),), ((0, "?", False),), ((0, "? ", 0),), ((0, "??", 0),), ((0, "x0", 0),), (0, "z", 0),
                ((0, "z", 0), (0, "z", 0)), ((0, None, 0),)]:
            self.refused(InvalidDraft, Draft, NAT, N, value)

    def test_twenty_gaps_and_twenty_one(self):
        for many in [0, 1, 5, 19, 20]:
            self.assertEqual(len(Draft(FIVE, N, comb(many)).gaps), many)
            self.assertEqual(len(Draft.read(FIVE, N, plain_text(comb(many))[0]).gaps), many)
        self.refused(InvalidDraft, Draft, FIVE, N, comb(21))
        self.refused(InvalidDraft, Draft.read, FIVE, N, plain_text(comb(21))[0])

    def test_forty_nodes_and_forty_one(self):
        for last in ["z", GAP]:
            long = ((0, "s", 1),) * 39 + ((0, last, 0),)
            self.assertEqual(len(Draft(NAT, N, long)), 40)
            self.assertTrue(Draft.read(NAT, N, plain_text(long)[0]) == Draft(NAT, N, long))
            for many in [1, 2, 400]:
                self.refused(InvalidDraft, Draft, NAT, N, ((0, "s", 1),) * many + long)
                self.refused(InvalidDraft, Draft.read, NAT, N, plain_text(((0, "s", 1),) * many + long)[0])

    def test_a_hundred_variables_and_more(self):
        library, row = LEAVES.only("l"), ((13, "l", 1),) * 7
        for first, due in [(9, True), (10, False)]:
            goal = Type.read("a -> " * first + "a")
            for last in ["x0", GAP]:
                nodes = ((first, "l", 1),) + row[1:] + ((13, last, 0),)
                if due:
                    self.assertEqual(len(Draft(library, goal, nodes)), 8)
                    self.assertEqual(Draft.read(library, goal, plain_text(nodes)[0]).nodes, nodes)
                else:
                    self.refused(InvalidDraft, Draft, library, goal, nodes)
                    self.refused(ParseError, Draft.read, library, goal, plain_text(nodes)[0])
        one = Draft(library, Type.read("a -> " * 10 + "a"), ((10, "l", 1),) + row[1:6] + ((13, GAP, 0),))
        self.refused(InvalidDraft, one.fill, 6, "l")
        self.refused(InvalidDraft, one.put, 6, ((13, "l", 1), (13, "x0", 0)))
        self.assertEqual(one.fill(6, "x87").nodes[6], (13, "x87", 0))

    def test_texts(self):
        """[14.1]: what is no text of nodes, and what is one, but of no draft."""
        goal = Type.read("n -> n")
        for text in ["", "??", "? ", " ?", "(?)", "? z", "s (? z)", "s  ?", "\\x1. ?", "\\x0.?", "\\x0. ? x0", "s ? )",
                     "s (?)", "x0", "\\x0. x1", "\\? . z", "\\x0. s (\\x0. ?)", "S", "s -", "?(", "(" * 9000,
                     "s (" * 3000, "?" * 9000, "\\x0 ?. z", "s ?s", "s\n?"] + others(str):
            self.assertIs(self.refused(ParseError, Draft.read, NAT, goal, text).line, None)
            self.assertIs(self.refused(ParseError, Draft.read, NAT, N, text).line, None)
        for text in ["?", "s", "s ? ?", "\\x0. q", "\\x0 x1. ?", "\\x0. s (\\x1. ?)", "s ?", "\\x0. z z", "\\x0. x0 ?",
                     "s s s", "\\x0. s (z z)"]:
            self.refused(InvalidDraft, Draft.read, NAT, goal, text)
        self.assertEqual(Draft.read(NAT, goal, "\\x0. s ?").gaps, (1,))

    def test_errors(self):
        for value in others(Library):
            self.refused(InvalidLibrary, Draft, value, None, None)
            self.refused(InvalidLibrary, Draft.read, value, None, None)
            self.refused(InvalidLibrary, Draft, value, N)
        for value in others(Type):
            self.refused(InvalidType, Draft, NAT, value, 1)
            self.refused(InvalidType, Draft.read, NAT, value, "(")


class Filling(Case):
    def test_all_drafts_come_of_one_gap(self):
        """[14.2]: by filling gaps again and again, all small drafts, and no others."""
        for library, goal in goals():
            due = [Draft(library, goal)]
            found = {}
            while due:
                one = due.pop()
                if len(one) <= 4 and one.nodes not in found:
                    found[one.nodes] = one
                    due.extend(one.fill(place, head) for place in one.gaps for head in one.choices(place))
            self.assertEqual(sorted(found), sorted(partials_upto(library, goal, 4)))

    def test_questions_and_choices(self):
        for library, goal, several in sample_drafts():
            for nodes in several:
                one = Draft(library, goal, nodes)
                for place, wanted, above in gaps_in(library, goal, nodes):
                    heads = plain_choices(library, wanted, above)
                    self.assertTrue(same([one.question(place), one.choices(place), one.good_choices(place)],
                                         [told(question_at(library, wanted, above)), tuple(heads),
                                          plain_good(library, wanted, above)]))
                    for head, kind in heads.items():
                        filled = ((len(wanted[0]), head, len(kind[0])),)
                        filled += tuple((len(inner[0]), GAP, 0) for inner in kind[0])
                        self.assertTrue(same(one.fill(place, head).nodes,
                                             nodes[:place] + filled + nodes[place + 1:]))

    def test_good_choices_lead_to_programs(self):
        for library, goal in goals():
            one = Draft(library, goal)
            for head in one.choices(0):
                self.assertIs(one.fill(0, head).can_finish(), head in one.good_choices(0))

    def test_variables_are_ordered_as_strings(self):
        goal = Type.read("a -> " * 12 + "a")
        one = Draft(Library.read("f : a"), goal)
        self.assertEqual(one.choices(0), ("f", "x0", "x1", "x10", "x11", "x2", "x3", "x4", "x5", "x6", "x7", "x8",
                                          "x9"))
        self.assertEqual(one.good_choices(0), one.choices(0))

    def test_put(self):
        rand = random.Random(5)
        for library, goal, several in sample_drafts(most=6):
            for nodes in several:
                one = Draft(library, goal, nodes)
                every = partials_upto(library, goal, 4)
                for place in one.gaps:
                    # What other drafts have there, and pieces that do not belong there.
                    pieces = {tuple(rand.choice(every)[at:]) for at in range(3)} | {
                        other[place:] for other in every if plain_fits(other, nodes) and len(one.gaps) == 1}
                    pieces |= {(), nodes, nodes[place:], ((0, GAP, 0),), ((1, GAP, 0),), ((0, "x0", 0),)}
                    for piece in pieces:
                        made = nodes[:place] + piece + nodes[place + 1:]
                        if self.is_tree(piece) and len(made) <= 6 and plain_draft(library, goal, made):
                            self.assertEqual(one.put(place, piece).nodes, made)
                        elif not self.is_tree(piece) or len(made) <= 6:
                            self.refused(InvalidDraft, one.put, place, piece)

    def is_tree(self, nodes):
        due = 1
        for at, node in enumerate(nodes):
            due += node[2] - 1
            if due == 0:
                return at == len(nodes) - 1
        return False

    def test_put_levels_of_the_whole_draft(self):
        one = Draft.read(LAMBDA, A, "lam (\\x0. app ? (lam (\\x1. ?)))")
        self.assertEqual(one.put(2, ((0, "x0", 0),)).text, "lam (\\x0. app x0 (lam (\\x1. ?)))")
        self.assertEqual(one.put(4, ((1, "app", 2), (0, "x0", 0), (0, "x1", 0))).text,
                         "lam (\\x0. app ? (lam (\\x1. app x0 x1)))")
        self.assertEqual(one.put(2, ((0, "lam", 1), (1, "x1", 0))).text,
                         "lam (\\x0. app (lam (\\x1. x1)) (lam (\\x1. ?)))")
        self.refused(InvalidDraft, one.put, 2, ((0, "x1", 0),))
        self.refused(InvalidDraft, one.put, 4, ((0, "x0", 0),))

    def test_put_takes_one_tree_only(self):
        """Two trees, or a part of one, could go together with what stands behind the gap."""
        one = Draft.read(TWO, N, "p ? y")
        self.refused(InvalidDraft, one.put, 1, ((0, "z", 0), (0, "p", 2), (0, "z", 0)))
        self.refused(InvalidDraft, Draft.read(NAT.with_part("p", TWO["p"]), N, "p ? z").put, 1,
                     ((0, "z", 0), (0, "s", 1)))
        self.refused(InvalidDraft, one.put, 1, ((0, "p", 2), (0, "z", 0)))
        self.assertEqual(one.put(1, ((0, "p", 2), (0, GAP, 0), (0, "z", 0))).text, "p (p ? z) y")

    def test_reopen(self):
        for library, goal, several in sample_drafts():
            for nodes in several:
                one = Draft(library, goal, nodes)
                for place in range(len(nodes)):
                    end = place + 1
                    due = nodes[place][2]
                    while due:
                        due += nodes[end][2] - 1
                        end += 1
                    made = nodes[:place] + ((nodes[place][0], GAP, 0),) + nodes[end:]
                    self.assertTrue(same(one.reopen(place).nodes, made))
                    self.assertIs(one.is_within(one.reopen(place)), True)

    def test_too_many_gaps_and_nodes(self):
        one = Draft(FIVE, N, comb(20))
        place = one.gaps[0]
        self.refused(InvalidDraft, one.fill, place, "p")
        self.refused(InvalidDraft, one.fill, place, "t")
        self.assertEqual([len(one.fill(place, "s").gaps), len(one.fill(place, "z").gaps)], [20, 19])
        whole = one.fill(place, "z")
        self.assertEqual(len(whole.reopen(place).gaps), 20)
        self.refused(InvalidDraft, one.put(place, ((0, "s", 1), (0, GAP, 0))).fill, place + 1, "t")
        self.refused(InvalidDraft, one.put, place, ((0, "t", 2), (0, GAP, 0), (0, GAP, 0)))
        # A node without gaps below it becomes one more.
        more = Draft(FIVE, N, ((0, "t", 2),) + comb(20) + ((0, "z", 0),))
        self.refused(InvalidDraft, more.reopen, len(more) - 1)
        long = Draft(NAT, N, ((0, "s", 1),) * 39 + ((0, GAP, 0),))
        self.refused(InvalidDraft, long.fill, 39, "s")
        self.assertEqual(len(long.fill(39, "z")), 40)
        self.refused(InvalidDraft, long.put, 39, ((0, "s", 1), (0, "z", 0)))

    def test_places_and_heads_that_are_none(self):
        one = Draft.read(NAT.with_part("p", TWO["p"]), N, "p ? (p z ?)")
        for value in all_values() + [0, 2, 3, 5, -1]:
            if value.__class__ is not int or value not in (1, 4):
                for call in [one.question, one.choices, one.good_choices, lambda at: one.fill(at, None),
                             lambda at: one.put(at, None)]:
                    self.assertTrue(same(self.refused(InvalidNumber, call, value).number, value))
        for value in not_sizes(4):
            self.assertTrue(same(self.refused(InvalidNumber, one.reopen, value).number, value))
            self.assertTrue(same(self.refused(InvalidNumber, lambda at: one[at], value).number, value))
        for value in [value for value in all_values() if value not in ("z", "s", "p")] + ["x0", GAP, ("z",), "q"]:
            self.assertTrue(same(self.refused(UnknownWord, one.fill, 1, value).asked, value))
            self.assertTrue(same(self.refused(UnknownWord, one.fill, 4, value).asked, value))
        for value in all_values() + [[(0, "z", 0)], ((0, "z"),)]:
            self.refused(InvalidDraft, one.put, 1, value)


class Finishing(Case):
    def test_ways_and_programs(self):
        endless, finite, none = 0, 0, 0
        for library, goal, several in sample_drafts():
            for nodes in several:
                one = Draft(library, goal, nodes)
                ways = plain_ways(library, goal, nodes)
                self.assertTrue(same([one.ways_to_finish(), one.can_finish()], [ways, ways != 0]))
                endless, finite, none = endless + (ways is None), finite + bool(ways), none + (ways == 0)
                if ways == 0:
                    self.assertTrue(same(self.refused(NoProgram, one.finish).wanted, goal.text))
                    continue
                found = one.finish()
                self.assertIs(is_program(library, goal, found), True)
                self.assertTrue(plain_fits(found.nodes, nodes))
                sizes = []
                for _, wanted, above in gaps_in(library, goal, nodes):
                    first = question_at(library, wanted, above)
                    sizes.append(sizes_of(first)[first])
                self.assertEqual(found.size, len(nodes) - len(sizes) + sum(sizes))
        self.assertGreater(min(endless, finite, none), 40)

    def test_ways_are_the_programs_where_these_are_small(self):
        library = Library.read("f : a -> a -> b", "g : (a -> b) -> c", "y : a", "z : a")
        every = programs_upto(library, C, 8)
        for nodes in partials_upto(library, C, 5):
            due = len([one for one in every if plain_fits(one, nodes)])
            self.assertEqual(Draft(library, C, nodes).ways_to_finish(), due)
        self.assertEqual([len(every), Draft(library, C).ways_to_finish()], [9, 9])

    def test_no_gaps(self):
        one = Draft.read(NAT, N, "s z")
        self.assertTrue(same([one.ways_to_finish(), one.can_finish(), one.finish().text, one.program().text],
                             [1, True, "s z", "s z"]))
        for library, goal in goals():
            for nodes in programs_upto(library, goal, 4)[:5]:
                self.assertEqual(Draft(library, goal, nodes).program().nodes, nodes)

    def test_there_is_no_program_with_gaps(self):
        for text in ["?", "s ?", "s (s ?)"]:
            self.refused(InvalidOperation, Draft.read(NAT, N, text).program)

    def test_zero_ahead_of_endless(self):
        library = NAT.with_part("p", Type.read("q -> n -> n"))
        one = Draft.read(library, N, "p ? ?")
        self.assertTrue(same([one.ways_to_finish(), one.can_finish()], [0, False]))
        self.assertIs(Draft.read(library.with_part("k", Q), N, "p ? ?").ways_to_finish(), None)

    def test_sixty_digits_and_more(self):
        """Gaps with ten heads at ten places each: the product counts."""
        library = Library.read("g : c -> c -> c -> c -> c -> c -> c -> c -> c -> c -> b", "h : b -> a",
                               *[f"{name} : c" for name in "klmno"])
        goal = Type.read("c -> c -> c -> c -> c -> a")
        one = Draft.read(library.with_part("h", Type.read("b -> b -> b -> b -> b -> a")), goal,
                         "\\x0 x1 x2 x3 x4. h ? ? ? ? ?")
        self.assertTrue(same(one.ways_to_finish(), 10 ** 50))
        six = Draft.read(library.with_part("h", Type.read("b -> b -> b -> b -> b -> b -> a")), goal,
                         "\\x0 x1 x2 x3 x4. h ? ? ? ? ? ?")
        self.assertTrue(same(self.refused(TooMany, six.ways_to_finish).limit, 60))
        self.assertIs(six.can_finish(), True)
        fewer = six.put(6, ((0, "g", 10),) + ((0, "x0", 0),) * 10)
        self.assertTrue(same(fewer.ways_to_finish(), 10 ** 50))
        self.assertTrue(same(fewer.put(5, ((0, "g", 10), (0, GAP, 0)) + ((0, "x0", 0),) * 9).ways_to_finish(),
                             10 ** 41))

    def test_too_many_digits_at_a_gap_of_a_draft_without_ways(self):
        lines = [f"{name} : " + " -> ".join([inner] * 14 + [outer])
                 for name, inner, outer in zip("pqr", "bcd", "abc")]
        library = Library.read(*lines, "y : d", "z : d", "k : a -> e -> f")
        self.assertEqual(self.refused(TooMany, Draft(library, A).ways_to_finish).limit, 60)
        one = Draft.read(library, Type.plain("f"), "k ? ?")
        self.assertTrue(same(one.ways_to_finish(), 0))

    def test_forty_nodes_and_forty_one(self):
        d, e = Type.plain("d"), Type.plain("e")
        self.assertEqual(Draft(FORTY, d).finish().size, 40)
        self.assertTrue(same(self.refused(TooMany, Draft(FORTY, e).finish).limit, 40))
        self.assertTrue(same(self.refused(TooMany, Draft.read(FORTY, e, "k ?").finish).limit, 40))
        self.assertTrue(same(self.refused(TooMany, Draft(doubling(5), A).finish).limit, 40))
        two = Library.read("f : a -> b", "y : a", "s : b -> b")
        for many, due in [(0, 2), (37, 39), (38, 40), (39, None)]:
            one = Draft(two, Type.plain("b"), ((0, "s", 1),) * many + ((0, GAP, 0),))
            if due is None:
                self.assertTrue(same(self.refused(TooMany, one.finish).limit, 40))
            else:
                self.assertEqual(one.finish().size, due)

    def test_too_many_questions(self):
        one = Draft(wide(11), Q)
        for call in [one.can_finish, one.ways_to_finish, one.finish, lambda: one.good_choices(0)]:
            self.assertTrue(same(self.refused(TooMany, call).limit, 2000))
        self.assertEqual(one.choices(0), ("s", "t"))
        just = Draft(JUST, Q)
        self.assertEqual([just.can_finish(), just.ways_to_finish(), just.good_choices(0)], [False, 0, ()])
        self.assertEqual(self.refused(NoProgram, just.finish).wanted, "q")
        built = Draft(JUST.with_part("z", Q), Q)
        self.assertEqual([built.can_finish(), built.ways_to_finish(), built.finish().text, built.good_choices(0)],
                         [True, None, "z", ("s", "t", "u", "z")])
        # A second gap with too many questions is told, whatever the first one is.
        library = wide(11).with_part("p", Type.read("n -> q -> r"))
        two = Draft.read(library, Type.plain("r"), "p ? ?")
        for call in [two.can_finish, two.ways_to_finish, two.finish]:
            self.assertTrue(same(self.refused(TooMany, call).limit, 2000))

    def test_which_programs_are_of_a_draft(self):
        for library, goal, several in sample_drafts():
            found = programs_upto(library, goal, 5)[:30]
            for nodes in several:
                one = Draft(library, goal, nodes)
                for other in found:
                    self.assertIs(one.is_of(Program(other)), plain_fits(other, nodes))
        one = Draft.read(NAT, N, "s ?")
        for value in others(Program) + [Program.read("y"), Program.read("\\x0. x0"), Program.read("s")]:
            self.refused(InvalidProgram, one.is_of, value)


class Beside(Case):
    def test_common_and_wider_and_within(self):
        met, parted = 0, 0
        for library, goal, several in sample_drafts(most=14):
            for nodes in several:
                one = Draft(library, goal, nodes)
                for more in several:
                    other = Draft(library, goal, more)
                    due = plain_common(nodes, more)
                    found = one.common_with(other)
                    self.assertTrue(same(None if found is None else found.nodes, due))
                    self.assertTrue(same(one.wider_with(other).nodes, plain_wider(nodes, more)))
                    self.assertIs(one.is_within(other), plain_fits(nodes, more))
                    met, parted = met + (due is not None), parted + (due is None)
        self.assertGreater(min(met, parted), 300)

    def test_by_programs(self):
        """Just those programs are of the common draft that are of both; all programs of both are of the wider one."""
        for library, goal in [(TWO, N), (NAT, N), (CONT, C), (LAMBDA, A)]:
            found = programs_upto(library, goal, 5)
            every = partials_upto(library, goal, 4)
            rand = random.Random(9)
            for _ in range(200):
                one, other = [Draft(library, goal, rand.choice(every)) for _ in range(2)]
                common, wider = one.common_with(other), one.wider_with(other)
                for nodes in found:
                    both = plain_fits(nodes, one.nodes), plain_fits(nodes, other.nodes)
                    self.assertIs(common is not None and common.is_of(Program(nodes)), all(both))
                    self.assertTrue(wider.is_of(Program(nodes)) or not any(both))
                self.assertTrue(one.is_within(wider) and other.is_within(wider))
                if common is not None:
                    self.assertTrue(common.is_within(one) and common.is_within(other))

    def test_which_draft_is_within_which(self):
        """By filling gaps again and again."""
        for library, goal in [(TWO, N), (CONT, C), (PIPE, Type.read("a -> c"))]:
            every = partials_upto(library, goal, 4)
            for nodes in every:
                due = [Draft(library, goal, nodes)]
                found = set()
                while due:
                    one = due.pop()
                    if len(one) <= 4 and one.nodes not in found:
                        found.add(one.nodes)
                        due.extend(one.fill(place, head) for place in one.gaps for head in one.choices(place))
                for other in every:
                    self.assertIs(Draft(library, goal, other).is_within(Draft(library, goal, nodes)), other in found)

    def test_too_many_gaps_and_nodes(self):
        """Drafts with up to twenty gaps each that together have more."""
        half = ((0, "p", 5),) + ((0, GAP, 0),) * 5
        left = Draft(FIVE, N, ((0, "p", 5),) + half + half + ((0, GAP, 0),) + half + ((0, GAP, 0),))
        right = Draft(FIVE, N, ((0, "p", 5),) + ((0, GAP, 0),) * 2 + half + ((0, GAP, 0),) + half)
        self.assertEqual([len(left.gaps), len(right.gaps)], [17, 13])
        self.refused(InvalidDraft, left.common_with, right)
        chain = Draft(TWO, N, ((0, "p", 2),) + ((0, "p", 2), (0, "z", 0)) * 10 + ((0, "z", 0), (0, GAP, 0)))
        other = Draft(TWO, N, ((0, "p", 2), (0, GAP, 0)) + ((0, "p", 2), (0, "z", 0)) * 9 + ((0, "z", 0),))
        self.refused(InvalidDraft, chain.common_with, other)

    def test_wider_drafts_with_too_many_gaps(self):
        row = ((0, "t", 2), (0, "z", 0)) * 19 + ((0, "z", 0),)
        other = ((0, "t", 2), (0, GAP, 0)) * 19 + ((0, "z", 0),)
        self.assertEqual(len(Draft(FIVE, N, row).wider_with(Draft(FIVE, N, other)).gaps), 19)
        fives = ((0, "p", 5),) + ((0, "p", 5),) + (((0, "z", 0),) * 5) + (((0, "p", 5),) + ((0, "z", 0),) * 5) * 4
        self.assertEqual(len(fives), 31)
        sixes = ((0, "p", 5),) + (((0, "p", 5),) + ((0, GAP, 0),) * 4 + ((0, "z", 0),)) * 5
        nines = ((0, "p", 5),) + (((0, "p", 5),) + ((0, "z", 0),) * 4 + ((0, GAP, 0),)) * 5
        self.assertEqual(len(Draft(FIVE, N, fives).wider_with(Draft(FIVE, N, sixes)).gaps), 20)
        self.refused(InvalidDraft, Draft(FIVE, N, nines).wider_with, Draft(FIVE, N, sixes))
        self.assertEqual(len(Draft(FIVE, N, nines).common_with(Draft(FIVE, N, sixes)).gaps), 0)

    def test_drafts_of_other_goals_and_libraries(self):
        one = Draft.read(NAT, N, "s ?")
        for value in others(Draft) + [Draft(NAT, Type.read("n -> n")), Draft(TWO, N), Draft(NAT.without("z"), N),
                                      Program.read("s z"), one.nodes]:
            for call in [one.common_with, one.wider_with, one.is_within]:
                self.refused(InvalidOperation, call, value)
        self.assertIs(one.is_within(Draft(Library.read("z : n", "s : n -> n"), N)), True)

    def test_equality(self):
        several = [Draft(library, goal, nodes) for library in [NAT, TWO]
                   for goal in [N, Type.read("n -> n"), Type.plain("m"), Type.read("m -> n")]
                   for nodes in partials_upto(library, goal, 2)]
        for at, one in enumerate(several):
            for beside, other in enumerate(several):
                self.assertIs(one == other, at == beside)
                self.assertIs(one != other, at != beside)
        for value in all_values():
            self.assertIs(one == value, False)
            self.assertIs(one != value, True)
        self.assertIs(Draft(NAT, N) == Draft(NAT, N), True)


class Unchanged(Case):
    def test_drafts_never_change(self):
        one = Draft.read(TWO, N, "p ? (p ? z)")
        ahead = [one.nodes, one.gaps, one.text]
        other = Draft.read(TWO, N, "p y ?")
        for call in [lambda: one.fill(1, "p"), lambda: one.put(1, ((0, "z", 0),)), lambda: one.reopen(0), one.finish,
                     lambda: one.common_with(other), lambda: one.wider_with(other), lambda: one.is_within(other),
                     lambda: one.good_choices(3), one.ways_to_finish, lambda: one.fill(1, "q"),
                     lambda: one.put(1, ((0, "q", 0),)), one.program]:
            try:
                call()
            except (UnknownWord, InvalidDraft, InvalidOperation):
                pass
            self.assertEqual([one.nodes, one.gaps, one.text], ahead)
        self.assertEqual(other.text, "p y ?")

    def test_equal_calls_return_equal_results(self):
        for library, goal, several in sample_drafts(most=4):
            for nodes in several:
                one, other = Draft(library, goal, nodes), Draft(library, goal, nodes)
                if one.can_finish():
                    self.assertTrue(one.finish() == other.finish())


if __name__ == "__main__":
    unittest.main()
