import copy
import unittest

from fromparts.ask import building
from fromparts.ask.building import (is_plan, least_plan, least_size, least_sizes, plan_by, plan_of, planned, plans,
                                    shortest)
from fromparts.ask.questions import Questions
from fromparts.base.libraries import Library
from fromparts.base.programs import Program, is_program
from fromparts.base.types import Type
from fromparts.errors import (InvalidLibrary, InvalidOperation, InvalidProgram, InvalidType, NoProgram, TooMany)
from cases import CONT, LAMBDA, NAT, PIPE, TWO, Case, others, random_goals, sample_goals
from search import (asked, choices_of, closed_dicts, comes_to_an_end, first_of, programs, programs_upto, questions_in,
                    ranks_of, told, tree)
from test_questions import JUST, Q, wide
from trees import text_of
from values import all_values, same

N = Type.plain("n")
FIRST = (("n", "n -> n"), "n")


def goals():
    return sample_goals() + random_goals(11, 60) + random_goals(12, 30, parts=6, places=7)


def tiny_goals():
    """Those with so few questions that all dicts from them to choices can be looked through."""
    found = []
    for library, goal in goals() + random_goals(13, 120, parts=4, places=4, order=3, atoms="ab"):
        many = 1
        for choices in asked(first_of(library, goal)).values():
            many *= len(choices) + 1
        if many <= 3000:
            found.append((library, goal))
    return found


def as_told(taken):
    """A dict from questions to choices as the program tells it."""
    named = {told(question): text_of(kind) for question, kind in taken.items()}
    return {question: named[question] for question in sorted(named)}


def sizes_of(first):
    """The least sizes of the answered questions, by lowering them until nothing changes."""
    every = asked(first)
    sizes = {}
    changed = True
    while changed:
        changed = False
        for question in every:
            for several in choices_of(question).values():
                if all(one in sizes for one in several):
                    size = 1 + sum(sizes[one] for one in several)
                    if size < sizes.get(question, size + 1):
                        sizes[question] = size
                        changed = True
    return sizes


def row_of(plan):
    return tuple(sorted(plan.items()))


def grown(library, goal, plan):
    """The nodes of the program of a plan, by calling itself for each argument; there are few of them."""
    parts = sorted((name, tree(library[name])) for name in library)

    def nodes_for(wanted, above):
        scope = above + wanted[0]
        texts = tuple(sorted({text_of(kind) for _, kind in parts} | {text_of(kind) for kind in scope}))
        chosen = plan[(texts, wanted[1])]
        heads = parts + [(f"x{level}", kind) for level, kind in enumerate(scope)]
        head, kind = next((head, kind) for head, kind in heads if text_of(kind) == chosen)
        row = ((len(wanted[0]), head, len(kind[0])),)
        for one in kind[0]:
            row += nodes_for(one, scope)
        return row

    return nodes_for(tree(goal), ())


def doubling(many):
    """A library in which the least program of its goal has 2 ** (many + 1) - 1 nodes."""
    atoms = "abcdefgh"[:many + 1]
    lines = [f"{name} : {inner} -> {inner} -> {outer}" for name, inner, outer in zip("pqrstuv", atoms[1:], atoms)]
    return Library.read(*lines, f"z : {atoms[-1]}")


def independent(counts, back):
    """A library and a goal with so many choices for each of some atoms, independently of one another.

    The last atom, r, has so many choices of which all but one come back to r.
    """
    letters = "abcdefhij"[:len(counts)]
    kinds = [f"({' -> '.join(['m'] * at + [letter])})" if at else letter
             for letter, many in zip(letters, counts) for at in range(many)]
    kinds += [f"({' -> '.join(['r'] * at + ['r'])})" if at else "r" for at in range(back)]
    bins = []
    for kind in sorted(kinds, key=len, reverse=True):
        for row in bins:
            if sum(one.count("-") + 1 for one in row) + kind.count("-") + 1 <= 13:
                row.append(kind)
                break
        else:
            bins.append([kind])
    goals_on_way = [f"g{letter}" for letter in "abcdefg"]
    lines = [f"w{'abcdef'[at]} : ({' -> '.join(row)} -> {goals_on_way[at + 1]}) -> {goals_on_way[at]}"
             for at, row in enumerate(bins)]
    last = " -> ".join(list(letters) + ["r", goals_on_way[len(bins)]])
    return Library.read("m : m", f"p : {last}", *lines), Type.plain("ga")


class Interface(Case):
    def test_names_and_parameters(self):
        two = ["library", "goal"]
        for call, parameters in [(is_plan, two + ["value"]), (planned, two + ["plan"]), (plan_by, two + ["ranks"]),
                                 (least_sizes, two), (least_size, two), (least_plan, two), (shortest, two),
                                 (plans, two), (plan_of, two + ["program"])]:
            self.assertEqual(call.__module__, "fromparts.ask.building")
            self.assertIs(getattr(building, call.__name__), call)
            self.assertEqual(self.parameters(call), parameters)

    def test_example(self):
        goal = Type.read("(a -> b) -> c")
        due = ["z", "\\x0. k (\\x1. x)", 2, 1]
        self.assertTrue(same([str(shortest(NAT, N)), str(shortest(CONT, goal)), least_size(CONT, Type.read("c")),
                              len([one for one in plans(PIPE, Type.read("a -> c"))])], due))

    def test_plans_is_a_generator(self):
        self.assertEqual(plans(NAT, N).__class__, (one for one in ()).__class__)
        self.assertIs(iter(plans(None, None)).__class__, plans(NAT, N).__class__)


class Plans(Case):
    def test_all_plans_in_order(self):
        for library, goal in tiny_goals():
            first = first_of(library, goal)
            closed = closed_dicts(first)
            due = [as_told(taken) for taken in closed
                   if all(comes_to_an_end(taken, question) for question in taken)]
            if first not in ranks_of(first):
                self.assertEqual(due, [])
                self.assertEqual(self.refused(NoProgram, list, plans(library, goal)).wanted, goal.text)
            elif len(closed) > 500:
                self.assertTrue(same(self.refused(TooMany, list, plans(library, goal)).limit, 500))
            else:
                self.assertTrue(same(list(plans(library, goal)), sorted(due, key=row_of)))

    def test_questions_that_are_asked_on_several_ways(self):
        library = Library.read("p : a -> b -> c", "q : b -> a", "r : b", "s : d -> b", "t : d", "u : a")
        goal = Type.plain("c")
        due = [as_told(taken) for taken in closed_dicts(first_of(library, goal))]
        self.assertEqual(len(due), 4)
        self.assertTrue(same(list(plans(library, goal)), sorted(due, key=row_of)))

    def test_which_dicts_are_plans(self):
        for library, goal in tiny_goals()[:40]:
            first = first_of(library, goal)
            for taken in closed_dicts(first):
                due = all(comes_to_an_end(taken, question) for question in taken)
                self.assertIs(is_plan(library, goal, as_told(taken)), due)
                for question in taken:
                    less = as_told(taken)
                    del less[told(question)]
                    self.assertIs(is_plan(library, goal, less), False)

    def test_plans_can_have_more_questions(self):
        plan = {FIRST: "n", (("a", "a -> b"), "b"): "a -> b", (("a", "a -> b"), "a"): "a"}
        self.assertIs(is_plan(NAT, N, plan), True)
        self.assertIs(is_plan(NAT, N, {**plan, (("a -> a",), "a"): "a -> a"}), False)
        self.assertIs(is_plan(NAT, N, {**plan, (("a -> b",), "b"): "a -> b"}), False)
        self.assertEqual(planned(NAT, N, plan).text, "z")

    def test_what_is_no_plan(self):
        two = (("n", "n -> n"), "n")
        wrong = all_values() + [{two: "n -> n"}, {two: "m"}, {two: ("n",)}, {two: None}, {two: Type.plain("n")},
                                {(two,): "n"}, {"n": "n"}, {((), "n"): "n"}, {two: "n", "a": "a"}, [(two, "n")],
                                {two: "n", ((), "a"): "a"}, {two: "n", (("b", "a"), "a"): "a"}]
        for value in wrong:
            self.assertIs(is_plan(NAT, N, value), False)
            self.refused(InvalidOperation, planned, NAT, N, value)
        self.assertIs(is_plan(NAT, N, {two: "n"}), True)

    def test_programs_of_plans(self):
        for library, goal in tiny_goals():
            if Questions(library, goal).is_built and len(closed_dicts(first_of(library, goal))) <= 500:
                for plan in plans(library, goal):
                    nodes = grown(library, goal, plan)
                    if len(nodes) <= 40:
                        one = planned(library, goal, plan)
                        self.assertEqual(one.nodes, nodes)
                        self.assertIs(is_program(library, goal, one), True)
                        self.assertTrue(same(plan_of(library, goal, one), plan))
                    else:
                        self.refused(TooMany, planned, library, goal, plan)

    def test_heads_are_the_least_parts_and_then_the_least_variables(self):
        library = Library.read("q : a", "p : a", "f : a -> b -> b -> c")
        goal = Type.read("b -> b -> a -> c")
        plan = least_plan(library, goal)
        self.assertEqual(planned(library, goal, plan).text, "\\x0 x1 x2. f p x0 x0")
        self.assertEqual(planned(library.without("p"), goal, plan).text, "\\x0 x1 x2. f q x0 x0")
        self.assertEqual(planned(library.only("f"), goal, plan).text, "\\x0 x1 x2. f x2 x0 x0")

    def test_forty_nodes_and_more(self):
        library = Library.read("f : a -> a -> a -> b", "g : b -> b -> b -> c", "h : c -> c -> c -> d", "z : a")
        for text, size in [("a", 1), ("b", 4), ("c", 13), ("d", 40)]:
            one = shortest(library, Type.read(text))
            self.assertEqual(one.size, size)
            self.assertEqual(planned(library, Type.read(text), least_plan(library, Type.read(text))), one)
        more = library.with_part("k", Type.read("d -> e"))
        goal = Type.read("e")
        self.assertEqual(least_size(more, goal), 41)
        for call in [lambda: shortest(more, goal), lambda: planned(more, goal, least_plan(more, goal))]:
            self.assertTrue(same(self.refused(TooMany, call).limit, 40))

    def test_five_hundred_plans_and_more(self):
        for counts, back in [((5, 5, 5, 4), 1), ((5, 5, 4), 5), ((2, 5), 5)]:
            library, goal = independent(counts, back)
            due = 1
            for many in counts:
                due *= many
            self.assertEqual(len(list(plans(library, goal))), due)
        for counts, back in [((2,) * 9, 1), ((5, 5, 5), 5), ((3, 3, 3, 3, 7), 1)]:
            library, goal = independent(counts, back)
            self.assertTrue(Questions(library, goal).is_built)
            self.assertTrue(same(self.refused(TooMany, next, plans(library, goal)).limit, 500))


class Least(Case):
    def test_least_sizes(self):
        for library, goal in goals():
            first = first_of(library, goal)
            if len(asked(first)) <= 60:
                sizes = {told(question): size for question, size in sizes_of(first).items()}
                self.assertTrue(same(least_sizes(library, goal), {one: sizes[one] for one in sorted(sizes)}))
                if told(first) in sizes:
                    self.assertTrue(same(least_size(library, goal), sizes[told(first)]))
                    self.judge_shortest(library, goal, sizes)
                else:
                    for call in [least_size, least_plan, shortest]:
                        self.assertEqual(self.refused(NoProgram, call, library, goal).wanted, goal.text)

    def judge_shortest(self, library, goal, sizes):
        plan = least_plan(library, goal)
        self.assertIs(is_plan(library, goal, plan), True)
        self.assertEqual(list(plan), sorted(plan))
        names = {told(question): question for question in asked(first_of(library, goal))}
        for question, head in plan.items():
            options = [(1 + sum(sizes[told(one)] for one in several), text_of(kind))
                       for kind, several in choices_of(names[question]).items()
                       if all(told(one) in sizes for one in several)]
            self.assertEqual(min(options)[1], head)
        if sizes[told(first_of(library, goal))] <= 40:
            one = shortest(library, goal)
            self.assertIs(is_program(library, goal, one), True)
            self.assertEqual(one.nodes, grown(library, goal, plan))
            self.assertEqual({told(question) for question in questions_in(library, goal, one.nodes)}, set(plan))
            self.assertEqual(one.size, least_size(library, goal))

    def test_no_program_is_shorter(self):
        for library, goal in goals():
            found = programs_upto(library, goal, 5)
            if found:
                self.assertEqual(least_size(library, goal), len(found[0]))
                self.assertIn(shortest(library, goal).nodes, programs(tuple((name, tree(library[name]))
                                                                           for name in library), (), tree(goal),
                                                                      len(found[0])))

    def test_great_sizes(self):
        library = doubling(7)
        self.assertEqual(least_size(library, Type.plain("a")), 255)
        self.assertEqual(self.refused(TooMany, shortest, library, Type.plain("a")).limit, 40)
        self.assertEqual(shortest(library, Type.plain("d")).size, 31)

    def test_ties_go_to_the_least_text(self):
        library = Library.read("p : b -> a", "q : c -> a", "r : b", "s : c", "t : a -> a")
        self.assertEqual(shortest(library, Type.plain("a")).text, "p r")
        self.assertEqual(least_plan(library, Type.plain("a")),
                         {(("a -> a", "b", "b -> a", "c", "c -> a"), "a"): "b -> a",
                          (("a -> a", "b", "b -> a", "c", "c -> a"), "b"): "b"})

    def test_plan_by(self):
        for library, goal in goals():
            one = Questions(library, goal)
            if one.is_built and len(one) <= 60:
                names = {told(question): question for question in asked(first_of(library, goal))}
                for ranks in [one.ranks, {question: 2 * rank for question, rank in reversed(one.ranks.items())}]:
                    plan = plan_by(library, goal, ranks)
                    self.assertIs(is_plan(library, goal, plan), True)
                    self.assertEqual(list(plan), sorted(ranks))
                    for question in ranks:
                        texts = [text_of(kind) for kind, several in choices_of(names[question]).items()
                                 if all(ranks.get(told(inner), 10 ** 9) < ranks[question] for inner in several)]
                        self.assertEqual(plan[question], min(texts))

    def test_plan_by_takes_the_least_text_and_not_the_least_rank(self):
        library = Library.read("p : b -> a", "q : a", "r : b", "u : c -> b", "v : c")
        scope = library.scope
        ranks = {(scope, "a"): 3, (scope, "b"): 2, (scope, "c"): 1}
        self.assertEqual(plan_by(library, Type.plain("a"), ranks),
                         {(scope, "a"): "a", (scope, "b"): "b", (scope, "c"): "c"})
        less = library.without("q")
        scope = less.scope
        ranks = {(scope, "c"): 1, (scope, "b"): 2, (scope, "a"): 7}
        self.assertEqual(plan_by(less, Type.plain("a"), ranks)[(scope, "a")], "b -> a")

    def test_plan_by_refuses(self):
        for value in all_values() + [{FIRST: 0}, {((), "n"): 1}, {FIRST: True}, {}]:
            self.refused(InvalidOperation, plan_by, NAT, N, value)


class PlansOfPrograms(Case):
    def test_all_small_programs(self):
        for library, goal in goals():
            for nodes in programs_upto(library, goal, 5)[:30]:
                self.assertTrue(same(plan_of(library, goal, Program(nodes)), self.due(library, goal, nodes)))

    def due(self, library, goal, nodes):
        """The dict as the document tells it, with a look at all ways for a question that comes back."""
        one = Program(nodes)
        every = [told(question) for question in questions_in(library, goal, nodes)]
        scopes = [[kind for at in one.way_to(place) for kind in self.inputs(library, goal, one, at)]
                  for place in range(one.size)]
        taken = {}
        for place, (_, head, _) in enumerate(nodes):
            text = library[head].text if head in library else scopes[place][int(head[1:])].text
            if taken.setdefault(every[place], text) != text:
                return None
            way = [every[at] for at in one.way_to(place)]
            if len(set(way)) < len(way):
                return None
        return {question: taken[question] for question in sorted(taken)}

    def inputs(self, library, goal, one, place):
        return building.check_program(library, goal, one)[place][0].inputs

    def test_two_choices_for_one_question(self):
        self.assertIs(plan_of(NAT, N, Program.read("s z")), None)
        self.assertEqual(plan_of(NAT, N, Program.read("z")), {FIRST: "n"})
        self.assertEqual(plan_of(TWO, N, Program.read("y")), plan_of(TWO, N, Program.read("z")))
        self.assertIs(plan_of(LAMBDA, Type.plain("a"), Program.read("lam (\\x0. x0)")).__class__, dict)
        library = Library.read("p : a -> a -> b", "y : a", "z : a", "w : c -> a", "v : c")
        self.assertIs(plan_of(library, Type.plain("b"), Program.read("p z y")).__class__, dict)
        self.assertIs(plan_of(library, Type.plain("b"), Program.read("p z (w v)")), None)

    def test_refuses_what_is_no_program(self):
        for value in others(Program) + [Program.read("q"), Program.read("s"), Program.read("\\x0. z")]:
            self.refused(InvalidProgram, plan_of, NAT, N, value)


class Errors(Case):
    def test_libraries_and_types_come_first(self):
        for call in [is_plan, planned, plan_by, plan_of]:
            for value in others(Library):
                self.refused(InvalidLibrary, call, value, None, None)
            for value in others(Type):
                self.refused(InvalidType, call, NAT, value, None)
        for call in [least_sizes, least_size, least_plan, shortest, lambda *told: next(plans(*told))]:
            for value in others(Library):
                self.refused(InvalidLibrary, call, value, None)
            for value in others(Type):
                self.refused(InvalidType, call, NAT, value)

    def test_too_many_questions(self):
        for call in [least_sizes, least_size, least_plan, shortest, lambda *told: next(plans(*told))]:
            self.assertTrue(same(self.refused(TooMany, call, wide(11), Q).limit, 2000))
        self.assertEqual(least_sizes(JUST, Q), {})
        self.assertEqual(self.refused(NoProgram, least_size, JUST, Q).wanted, "q")
        self.assertEqual(len(least_sizes(JUST.with_part("z", Q), Q)), 2000)

    def test_a_generator_raises_nothing_ahead_of_its_first_element(self):
        for found in [plans(None, None), plans(NAT, None), plans(wide(11), Q), plans(PIPE, Q)]:
            self.assertIs(iter(found), found)
        for error, found in [(InvalidLibrary, plans(None, None)), (InvalidType, plans(NAT, "n")),
                             (TooMany, plans(wide(11), Q)), (NoProgram, plans(PIPE, Q))]:
            self.refused(error, next, found)

    def test_nothing_is_changed(self):
        plan, ranks = {FIRST: "n", ((), "a"): "b"}, Questions(NAT, N).ranks
        kept = copy.deepcopy((plan, ranks))
        is_plan(NAT, N, plan)
        plan_by(NAT, N, ranks)
        self.assertTrue(same((plan, ranks), kept))
        good = {FIRST: "n"}
        planned(NAT, N, good)
        self.assertEqual(good, {FIRST: "n"})
        found = plans(NAT.with_part("y", N), N)
        next(found).clear()
        self.assertEqual([list(found), list(plans(NAT, N))], [[], [{FIRST: "n"}]])
        least_sizes(NAT, N).clear()
        self.assertEqual(least_sizes(NAT, N), {FIRST: 1})


if __name__ == "__main__":
    unittest.main()
