import copy
import unittest

from fromparts.ask.asking import is_ascending
from fromparts.ask.building import least_size, shortest
from fromparts.ask.questions import Questions, is_question, question_of
from fromparts.base.libraries import Library
from fromparts.base.programs import Program, is_program
from fromparts.base.types import Type
from fromparts.count.listing import all_programs
from fromparts.errors import (InvalidLibrary, InvalidNumber, InvalidOperation, InvalidProgram, InvalidType, NoProgram,
                              TooMany, UnknownWord)
from fromparts.part import finding, uses as module
from fromparts.part.finding import small_program
from fromparts.part.uses import (MAX_MENU, is_needed_wish, is_use_paper, lean, least_parts, least_wishes,
                                 surplus_parts, use_of, use_paper, uses)
from cases import CONT, NAT, PIPE, Case, not_sizes, others, random_goals, sample_goals
from plain import is_built, least_rows, plain_surplus, plain_use
from search import asked, choices_of, first_of, programs_upto, told, tree
from test_building import doubling
from test_questions import JUST, Q, wide
from trees import text_of
from values import all_values, same

N = Type.plain("n")
A = Type.plain("a")
C = Type.plain("c")
FOUR = Library.read("f : a -> b", "g : a -> b", "y : a", "z : b")
# Three times three arguments: the least program of d has forty nodes, that of e one more.
FORTY = Library.read("f : a -> a -> a -> b", "g : b -> b -> b -> c", "h : c -> c -> c -> d", "k : d -> e", "z : a")
# Seven parts bind thirteen variables each on one way, and the goal ten; with q in the place of g there are less.
DEEP = Library.read(*[f"{name} : ({' -> '.join(['m'] * 13)} -> {inner}) -> {outer}"
                      for name, inner, outer in zip("abcdefg", "bcdefgm", "abcdefg")],
                    f"q : {' -> '.join(['m'] * 14)} -> g")
DEEP_GOAL = Type.read("m -> " * 10 + "a")


def goals():
    found = sample_goals() + random_goals(101, 70) + random_goals(102, 40, parts=6, places=6, atoms="ab")
    return [(library, goal) for library, goal in found if len(asked(first_of(library, goal))) <= 40]


def built_goals():
    return [(library, goal) for library, goal in goals() if is_built(library, goal)]


def libraries():
    every = [library for library, _ in random_goals(103, 60, parts=5, places=4, order=2, atoms="ab")]
    every += [library for library, _ in random_goals(104, 40, parts=6, places=5, order=3, atoms="abc")]
    return every + [FOUR, NAT, PIPE, CONT, Library(), FOUR.without("z"), Library.read("f : a -> a", "g : b")]


def plain_barred(value):
    """Whether a tuple of questions is barred, where questions are told as the program tells them."""
    if not isinstance(value, tuple) or not all(is_question(one) for one in value) or not is_ascending(value):
        return False
    return all(any(told(one) in value for one in several)
               for question in value for several in choices_of(with_trees(question)).values())


def with_trees(question):
    return frozenset(tree(Type.read(text)) for text in question[0]), question[1]


def plain_is_paper(library, goal, part, value):
    """Whether a value is a paper, word for word as the document says it."""
    if not isinstance(value, tuple) or not value:
        return False
    rest = value[1:]
    if value[0] == "every" and len(rest) == 2:
        barred = rest[1]
        return (is_program(library, goal, rest[0]) and plain_barred(barred)
                and question_of(library.without(part), goal) in barred)
    if value[0] == "some" and len(rest) == 2:
        return (all(is_program(library, goal, one) for one in rest) and part in rest[0].parts
                and part not in rest[1].parts)
    if value[0] == "none" and len(rest) == 3:
        program, reach, barred = rest
        if not is_program(library, goal, program) or not plain_barred(barred) or not isinstance(reach, tuple):
            return False
        if not all(is_question(one) for one in reach) or not is_ascending(reach):
            return False
        return question_of(library, goal) in reach and all(
            any(told(one) in barred for one in several)
            or (all(told(one) in reach for one in several) and kind != tree(library[part]))
            for question in reach for kind, several in choices_of(with_trees(question)).items())
    return False


def near_papers(paper, other):
    """Values that are like a paper, or like two of them, and mostly none."""
    found = [paper[:-1], paper + (None,), list(paper), paper[1:], (paper[0],), ()]
    for word in ["every", "some", "none", "Every", None, True, ("every",)]:
        found.append((word,) + paper[1:])
    for at in range(1, len(paper)):
        pieces = list(other[1:]) + [paper[1], None, (), ((), "a"), paper[at:at + 1], "a"]
        if isinstance(paper[at], tuple):
            pieces += [paper[at][1:], paper[at][:-1], paper[at][::-1], paper[at] + paper[at][:1], list(paper[at])]
            pieces += [tuple(sorted(paper[at] + (((), "zzz"),))), tuple(sorted(paper[at] + ((("a",), "a"),)))]
        found.extend([paper[:at] + (piece,) + paper[at + 1:] for piece in pieces])
    return found


class Interface(Case):
    def test_constant(self):
        self.assertTrue(same(MAX_MENU, 6))

    def test_names_and_parameters(self):
        two = ["library", "goal"]
        for call, parameters in [(use_of, two + ["part"]), (uses, two), (use_paper, two + ["part"]),
                                 (is_use_paper, two + ["part", "value"]), (surplus_parts, ["library"]),
                                 (lean, ["library"]), (least_parts, two), (least_wishes, two + ["menu"]),
                                 (is_needed_wish, two + ["menu", "index"])]:
            self.assertEqual(call.__module__, "fromparts.part.uses")
            self.assertIs(getattr(module, call.__name__), call)
            self.assertEqual(self.parameters(call), parameters)

    def test_first_example(self):
        self.assertTrue(same([uses(NAT, Type.read("n")), uses(CONT, Type.read("c")), surplus_parts(
            Library.read("f : a -> b", "g : a -> b", "y : a", "z : b"))],
            [{"s": "some", "z": "every"}, {"k": "every", "x": "every"}, ("f", "g", "z")]))

    def test_second_example(self):
        self.assertTrue(same([lean(Library.read("f : a -> b", "g : a -> b", "y : a", "z : b")).names,
                              least_parts(NAT, Type.read("n")),
                              least_wishes(PIPE, Type.read("c"), (Type.read("b"), Type.read("a"), Type.read("n")))],
                             [("f", "y"), (("z",),), ((0,), (1,))]))

    def test_keywords(self):
        self.assertEqual(use_of(library=NAT, goal=N, part="s"), "some")
        self.assertEqual(is_needed_wish(library=PIPE, goal=C, menu=(A,), index=0), True)


class Uses(Case):
    def test_uses(self):
        seen = set()
        for library, goal in built_goals():
            due = {part: plain_use(library, goal, part) for part in library}
            self.assertTrue(same(uses(library, goal), due))
            self.assertTrue(same([use_of(library, goal, part) for part in library], list(due.values())))
            seen.update(due.values())
        self.assertEqual(seen, {"every", "some", "none"})

    def test_uses_in_all_small_programs(self):
        for library, goal in built_goals():
            found = [Program(nodes).parts for nodes in programs_upto(library, goal, 6)]
            for part, use in uses(library, goal).items():
                having = [part in parts for parts in found]
                if use == "every":
                    self.assertTrue(all(having))
                elif use == "none":
                    self.assertFalse(any(having))
                if any(having) and not all(having):
                    self.assertEqual(use, "some")

    def test_uses_where_all_programs_are_small(self):
        for text, due in [("a -> b", {"f": "some", "g": "some", "h": "none", "y": "none"}),
                          ("(a -> c) -> b", {"f": "some", "g": "some", "h": "none", "y": "every"})]:
            library = Library.read("f : a -> b", "g : a -> b", "h : b -> d", "y : a")
            if text == "a -> b":
                library = library.without("y").with_part("y", C)
            found = [one.parts for one in all_programs(library, Type.read(text), most=8)]
            plain = {part: ("every" if all(part in parts for parts in found) else
                            "some" if any(part in parts for parts in found) else "none") for part in library}
            self.assertTrue(same(uses(library, Type.read(text)), due))
            self.assertTrue(same(plain, due))

    def test_parts_of_one_type(self):
        self.assertTrue(same(uses(FOUR, Type.plain("b")), {"f": "some", "g": "some", "y": "some", "z": "some"}))
        # A variable can stand where a part of its type stands, and the other way round.
        self.assertTrue(same(uses(NAT, Type.read("n -> n")), {"s": "some", "z": "some"}))
        self.assertTrue(same(uses(Library.read("y : a"), Type.read("a -> a")), {"y": "some"}))

    def test_no_parts(self):
        self.assertTrue(same(uses(Library(), Type.read("a -> a")), {}))
        self.assertEqual(self.refused(NoProgram, uses, Library(), A).wanted, "a")

    def test_a_part_of_a_question_without_programs_is_not_used(self):
        library = Library.read("f : a -> b -> c", "g : a", "h : c")
        self.assertTrue(same(uses(library, C), {"f": "none", "g": "none", "h": "every"}))
        self.assertTrue(same(uses(library.with_part("k", Type.plain("b")), C),
                             {"f": "some", "g": "some", "h": "some", "k": "some"}))


class Papers(Case):
    def test_papers(self):
        for library, goal in built_goals():
            plain = uses(library, goal)
            for part in library:
                paper = use_paper(library, goal, part)
                self.assertEqual(paper[0], plain[part])
                self.assertIs(is_use_paper(library, goal, part, paper), True)
                self.assertTrue(plain_is_paper(library, goal, part, paper))
                self.assertEqual(len(paper), 4 if paper[0] == "none" else 3)
                self.check_questions(library, goal, part, paper)

    def check_questions(self, library, goal, part, paper):
        """All questions of a paper are asked."""
        every = {told(one) for one in asked(first_of(library, goal))}
        without = {told(one) for one in asked(first_of(library.without(part), goal))}
        if paper[0] == "every":
            self.assertLessEqual(set(paper[2]), without)
        if paper[0] == "none":
            self.assertLessEqual(set(paper[2]) | set(paper[3]), every)

    def test_papers_and_near_ones(self):
        good, bad = {"every": 0, "some": 0, "none": 0}, 0
        several = built_goals()[:40]
        for library, goal in several:
            for part in library:
                paper = use_paper(library, goal, part)
                other = use_paper(library, goal, library.names[0])
                for value in near_papers(paper, other):
                    due = plain_is_paper(library, goal, part, value)
                    self.assertIs(is_use_paper(library, goal, part, value), due)
                    good[paper[0]] += due
                    bad += not due
        self.assertGreater(min(good.values()), 20)
        self.assertGreater(bad, 1000)

    def test_papers_of_others(self):
        """All programs show it as well as the least ones, and wider sets of questions as well as those asked."""
        more = ((("p",), "q"), (("p -> q",), "q"))
        for library, goal in [(NAT, N), (CONT, C), (FOUR, Type.plain("b")), (FOUR, Type.read("a -> b"))]:
            found = [Program(nodes) for nodes in programs_upto(library, goal, 5)]
            for part in library:
                having = [one for one in found if part in one.parts]
                lacking = [one for one in found if part not in one.parts]
                for one in having:
                    for other in lacking:
                        self.assertIs(is_use_paper(library, goal, part, ("some", one, other)), True)
                        self.assertIs(is_use_paper(library, goal, part, ("some", other, one)), False)
                    if not lacking:
                        barred = use_paper(library, goal, part)[2]
                        wider = tuple(sorted(barred + more[1:]))
                        self.assertIs(is_use_paper(library, goal, part, ("every", one, barred)), True)
                        # A question that no choice of heads is left for is barred by itself.
                        self.assertIs(is_use_paper(library, goal, part, ("every", one, wider)), False)
                        wider = tuple(sorted(barred + more[:1]))
                        self.assertIs(is_use_paper(library, goal, part, ("every", one, wider)), True)

    def test_none_papers_with_other_questions(self):
        library = Library.read("f : a -> b -> c", "g : a", "h : c", "k : c -> d")
        scope = library.scope
        first, kept = (scope, "c"), (scope, "b")
        for reach, barred, due in [((first,), (kept,), True), (((scope, "a"), first), (kept,), True),
                                   ((first,), (), False), ((), (kept,), False), ((kept, first), (kept,), True),
                                   ((first,), ((("b",), "a"), kept), True), ((first,), ((("b",), "b"), kept), False),
                                   ((first, (scope, "d")), (kept,), True), (((("x",), "y"), first), (kept,), True),
                                   ((first, first), (kept,), False), ((first,), (kept, kept), False)]:
            value = ("none", Program.read("h"), tuple(sorted(reach)) if len(set(reach)) == len(reach) else reach,
                     tuple(sorted(barred)) if len(set(barred)) == len(barred) else barred)
            self.assertIs(is_use_paper(library, C, "f", value), due, (reach, barred))
            self.assertIs(plain_is_paper(library, C, "f", value), due)
            # The part k is not used at c; where its atom d is reached, it is.
            self.assertIs(is_use_paper(library, C, "k", value), due and (scope, "d") not in reach)
            self.assertIs(is_use_paper(library, C, "h", value), False)

    def test_every_value_is_judged(self):
        for value in all_values():
            for part in NAT:
                self.assertIs(is_use_paper(NAT, N, part, value), False)
                for word in ["every", "some", "none"]:
                    self.assertIs(is_use_paper(NAT, N, part, (word, value, value)), False)
                    self.assertIs(is_use_paper(NAT, N, part, (word, Program.read("z"), value)), False)
                    self.assertIs(is_use_paper(NAT, N, part, (word, Program.read("z"), value, value)), False)
        # A type without programs has no papers.
        for value in [("every", None, ((("a -> b", "b -> c"), "c"),)), ("none", None, (), ())]:
            self.assertIs(is_use_paper(PIPE, C, "f", value), False)

    def test_forty_nodes_and_forty_one(self):
        d, e = Type.plain("d"), Type.plain("e")
        self.assertEqual([least_size(FORTY, d), least_size(FORTY, e)], [40, 41])
        self.assertEqual([use_paper(FORTY, d, "f")[1].size, use_of(FORTY, e, "f")], [40, "every"])
        for part in FORTY:
            self.assertTrue(same(self.refused(TooMany, use_paper, FORTY, e, part).limit, 40))
        self.assertEqual(use_paper(FORTY, d, "k")[0], "none")
        # With y there is a short program of e, and all others of it have more than forty nodes.
        more = FORTY.with_part("y", e)
        self.assertEqual(self.refused(TooMany, use_paper, more, e, "k").limit, 40)
        self.assertEqual(self.refused(TooMany, use_paper, more, e, "y").limit, 40)
        more = FORTY.with_part("y", d)
        self.assertEqual([one.size for one in use_paper(more, d, "f")[1:]], [40, 1])
        self.assertEqual([one.size for one in use_paper(more, d, "y")[1:]], [1, 40])
        self.assertEqual(self.refused(TooMany, use_paper, doubling(5), A, "z").limit, 40)

    def test_the_part_asked_stands_in_the_program(self):
        """Also where another part has the same type, and stands ahead of it."""
        library = Library.read("f : a -> b", "g : a -> b", "p : b -> b -> c", "y : a", "z : b")
        for part in library:
            for goal in [C, Type.plain("b"), Type.read("a -> c")]:
                paper = use_paper(library, goal, part)
                self.assertIs(plain_is_paper(library, goal, part, paper), True)

    def test_more_than_a_hundred_variables(self):
        self.assertEqual(least_size(DEEP, DEEP_GOAL), 8)
        self.refused(InvalidProgram, shortest, DEEP, DEEP_GOAL)
        self.assertEqual(small_program(DEEP, DEEP_GOAL).size, 21)
        self.assertIs(is_use_paper(DEEP, DEEP_GOAL, "a", use_paper(DEEP, DEEP_GOAL, "a")), True)
        self.assertEqual(use_of(DEEP, DEEP_GOAL, "q"), "some")
        # Without q all programs bind 101 variables on a way, so there is none that can be shown.
        self.assertEqual(self.refused(TooMany, use_paper, DEEP, DEEP_GOAL, "q").limit, 40)
        two = DEEP_GOAL % 1
        self.assertEqual([one.size for one in use_paper(DEEP, two, "q")[1:]], [21, 8])
        self.assertEqual(use_paper(DEEP, two, "g")[0], "some")


class Sets(Case):
    def test_surplus_parts(self):
        for library in libraries():
            self.assertTrue(same(surplus_parts(library), plain_surplus(library)))

    def test_lean(self):
        for library in libraries():
            left = library
            while plain_surplus(left):
                left = left.without(max(plain_surplus(left)))
            self.assertTrue(lean(library) == left)
            self.assertEqual(surplus_parts(lean(library)), ())

    def test_a_surplus_part_takes_no_type_away(self):
        for library, goal in goals():
            for part in surplus_parts(library):
                self.assertEqual(is_built(library.without(part), goal), is_built(library, goal))

    def test_two_surplus_parts_cannot_be_taken_away_together(self):
        """[0.23]."""
        self.assertEqual(surplus_parts(FOUR), ("f", "g", "z"))
        three = FOUR.without("f")
        self.assertEqual([surplus_parts(three), is_built(three.without("g", "z"), Type.plain("b"))],
                         [("g", "z"), False])
        two = Library.read("f : a", "g : a")
        self.assertEqual([surplus_parts(two), is_built(two.without("f", "g"), A)], [("f", "g"), False])

    def test_least_parts(self):
        for library, goal in goals():
            due = least_rows(library.names, lambda row: is_built(library.only(*row), goal))
            self.assertTrue(same(least_parts(library, goal), due))

    def test_least_parts_of_eight(self):
        eight = Library({name: A for name in "abcdefgh"})
        self.assertTrue(same(least_parts(eight, A), tuple((name,) for name in "abcdefgh")))
        self.assertTrue(same(least_parts(eight, Type.read("a -> a")), ((),)))
        self.assertTrue(same(least_parts(eight, N), ()))
        pairs = Library.read("a : x", "b : x", "c : x -> y", "d : x -> y", "e : y -> z", "f : y -> z", "g : z -> w",
                             "h : z -> w")
        due = tuple(sorted((one, two, three, four) for one in "ab" for two in "cd" for three in "ef" for four in "gh"))
        self.assertTrue(same(least_parts(pairs, Type.plain("w")), due))
        self.assertEqual(uses(pairs, Type.plain("w")), {name: "some" for name in "abcdefgh"})
        self.assertEqual(surplus_parts(pairs), tuple("abcdefgh"))
        self.assertEqual(lean(pairs).names, ("a", "c", "e", "g"))

    def test_least_wishes(self):
        menus = [(), (A,), (A, A), (Type.read("a -> b"), A, Type.plain("b"), C), (Type.read("a -> c"), A),
                 (Type.read("b -> a"), Type.read("(a -> b) -> a"), C, Type.read("c -> b"), A, Type.plain("b"))]
        for library, goal in goals()[:70]:
            for menu in menus:
                due = least_rows(list(range(len(menu))),
                                 lambda row: is_built(library, goal, [menu[index] for index in row]))
                self.assertTrue(same(least_wishes(library, goal, menu), due))
                for index in range(len(menu)):
                    needed = (is_built(library, goal, menu)
                              and not is_built(library, goal, menu[:index] + menu[index + 1:]))
                    self.assertIs(is_needed_wish(library, goal, menu, index), needed)

    def test_wishes_beside_eight_parts(self):
        """The types of a menu need no names, so eight parts and six wishes are let."""
        eight = Library.read("p : a -> b -> c -> d -> e -> f -> q", *[f"{name} : w" for name in "hijklmn"])
        menu = tuple(Type.plain(letter) for letter in "abcdef")
        self.assertTrue(same(least_wishes(eight, Q, menu), ((0, 1, 2, 3, 4, 5),)))
        self.assertTrue(same([is_needed_wish(eight, Q, menu, index) for index in range(6)], [True] * 6))
        self.assertTrue(same(least_wishes(eight, Type.plain("w"), menu), ((),)))
        self.assertTrue(same(least_wishes(eight, Type.plain("v"), menu), ()))


class Errors(Case):
    def test_library_and_goal(self):
        for call in [lambda *two: use_of(*two, None), uses, lambda *two: use_paper(*two, None),
                     lambda *two: is_use_paper(*two, None, None), least_parts,
                     lambda *two: least_wishes(*two, None), lambda *two: is_needed_wish(*two, None, None)]:
            for value in others(Library):
                self.refused(InvalidLibrary, call, value, None)
                self.refused(InvalidLibrary, call, value, N)
            for value in others(Type):
                self.refused(InvalidType, call, NAT, value)
        for call in [surplus_parts, lean]:
            for value in others(Library):
                self.refused(InvalidLibrary, call, value)

    def test_parts_that_are_none(self):
        for call in [use_of, use_paper, lambda *three: is_use_paper(*three, None)]:
            for value in [value for value in all_values() if value != "z"] + ["n", "S", ["s"]]:
                self.assertTrue(same(self.refused(UnknownWord, call, NAT, N, value).asked, value))
                # Behind it come too many questions, and a type without programs.
                self.refused(UnknownWord, call, wide(11), Q, value)
                self.refused(UnknownWord, call, PIPE, C, value)

    def test_menus_that_are_none(self):
        seven = (A,) * 7
        self.assertEqual(least_wishes(PIPE, C, seven[1:]), tuple((index,) for index in range(6)))
        for value in all_values() + [seven, [A], (A, "a"), (None,), A, (("a",),), {0: A}]:
            if value not in [()]:
                self.refused(InvalidOperation, least_wishes, PIPE, C, value)
                self.refused(InvalidOperation, is_needed_wish, PIPE, C, value, None)
                self.refused(InvalidOperation, least_wishes, wide(11), Q, value)

    def test_indices_that_are_none(self):
        for value in not_sizes(2):
            for library, goal in [(PIPE, C), (wide(11), Q)]:
                self.assertTrue(same(self.refused(InvalidNumber, is_needed_wish, library, goal, (A, C, N), value)
                                     .number, value))
        self.refused(InvalidNumber, is_needed_wish, PIPE, C, (), 0)

    def test_types_without_programs(self):
        for call in [uses, lambda *two: use_of(*two, "f"), lambda *two: use_paper(*two, "f")]:
            for text in ["c", "b -> a", "(a -> c) -> a"]:
                self.assertTrue(same(self.refused(NoProgram, call, PIPE, Type.read(text)).wanted, text))

    def test_too_many_questions(self):
        """Two thousand are let; of a type without programs with more than these, the first error is told."""
        for call in [uses, lambda *two: use_of(*two, "s"), lambda *two: use_paper(*two, "s")]:
            self.assertTrue(same(self.refused(TooMany, call, wide(11), Q).limit, 2000))
            self.assertEqual(self.refused(NoProgram, call, JUST, Q).wanted, "q")
        self.assertTrue(same(self.refused(TooMany, least_parts, wide(11), Q).limit, 2000))
        self.assertEqual(least_parts(JUST, Q), ())
        self.assertTrue(same(self.refused(TooMany, least_wishes, wide(11), Q, ()).limit, 2000))
        self.assertTrue(same(self.refused(TooMany, is_needed_wish, wide(11), Q, (N,), 0).limit, 2000))
        self.assertEqual(least_wishes(JUST, Q, (Q,)), ((0,),))
        built = JUST.with_part("z", Q)
        self.assertEqual([use_of(built, Q, "s"), use_of(built, Q, "z")], ["some", "every"])
        self.assertEqual(use_paper(built, Q, "z")[0], "every")
        many = wide(11).with_part("k", Type.read("q -> k"))
        self.assertTrue(same(self.refused(TooMany, surplus_parts, many.with_part("z", Q)).limit, 2000))
        self.assertTrue(same(self.refused(TooMany, lean, many.with_part("z", Q)).limit, 2000))

    def test_judging_asks_no_questions(self):
        for value in all_values():
            self.assertIs(is_use_paper(wide(11), Q, "s", value), False)
        paper = ("every", Program.read("z"), use_paper(JUST.with_part("z", Q), Q, "z")[2])
        self.assertIs(is_use_paper(JUST.with_part("z", Q), Q, "z", paper), True)


class Unchanged(Case):
    def test_nothing_is_changed(self):
        found = uses(NAT, N)
        found["s"] = "none"
        found.clear()
        self.assertEqual(uses(NAT, N), {"s": "some", "z": "every"})
        menu = (A, Type.read("a -> b"))
        kept = [one.text for one in menu]
        least_wishes(PIPE, C, menu)
        value = ["some", Program.read("s z"), {"a": [1]}]
        ahead = copy.deepcopy([value[0], value[2]])
        is_use_paper(NAT, N, "s", value)
        is_use_paper(NAT, N, "s", tuple(value))
        self.assertEqual([[value[0], value[2]], [one.text for one in menu]], [ahead, kept])
        self.assertEqual([NAT.lines, PIPE.lines], [("s : n -> n", "z : n"), ("f : a -> b", "g : b -> c")])

    def test_equal_calls_return_equal_results(self):
        for library, goal in built_goals()[:30]:
            for part in library:
                one, other = use_paper(library, goal, part), use_paper(library, goal, part)
                self.assertEqual([str(piece) for piece in one], [str(piece) for piece in other])


if __name__ == "__main__":
    unittest.main()
