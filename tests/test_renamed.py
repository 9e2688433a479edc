"""[0.22] over all stages: with other atoms one to one, and other names of parts, all that is told is the same."""

import re
import unittest

from fromparts.ask.building import least_plan, least_size, least_sizes, plan_of, planned, plans, shortest
from fromparts.ask.questions import Questions, built_paper, builds
from fromparts.base.libraries import Library
from fromparts.base.programs import Program, question_at, type_at
from fromparts.base.types import Type
from fromparts.count.counts import count, count_paper, counts_upto, pumped, usable_questions
from fromparts.count.listing import Listing, all_programs, next_program, program_at, rank_of
from fromparts.errors import BuildError, NoProgram, Refused, TooMany
from fromparts.part.uses import lean, least_parts, least_wishes, surplus_parts, use_paper, uses
from fromparts.put.interfaces import does_pass, interface_of, shared_atoms
from fromparts.put.order import cores, does_for, lacking, order_paper, parting_goal, translation
from fromparts.put.putting import applied, own_puts, put_in
from fromparts.room.rooms import Room, refusal, scope_room, scopes_of
from fromparts.text.shell import Shell
from fromparts.text.texts import write_library, write_puts, write_question, write_ranks, write_room
from fromparts.use.drafts import Draft
from fromparts.use.project import Project
from cases import CONT, Case, random_goals, sample_goals
from plain import rows_of
from search import asked, first_of, programs_upto
from values import same

# Words that belong to the values, and not to the libraries.
KEPT = set("""every some none ranks barred loop does parts new gone surplus useful InvalidOperation InvalidProgram
    NoProgram TooMany Refused""".split())
WORD = re.compile("x[0-9]+|[a-z]+")


def with_more_letters(word):
    """A name for each name of one letter that stands in the same place of the order."""
    return word + "m" if len(word) == 1 else word


def turned(word):
    """A name for each name of one letter, with another order."""
    return "zyxwvutsrqponmlkjihgfedcba"["abcdefghijklmnopqrstuvwxyz".index(word)] * 2 if len(word) == 1 else word


class Renaming:
    """What renaming makes of values of all sorts."""

    def __init__(self, name):
        self.name = name

    def text(self, text):
        return WORD.sub(lambda found: found[0] if found[0][1:].isdigit() else self.name(found[0]), text)

    def value(self, value):
        if isinstance(value, str):
            return value if value in KEPT else self.text(value)
        if isinstance(value, tuple):
            return tuple(self.value(one) for one in value)
        if isinstance(value, list):
            return [self.value(one) for one in value]
        if isinstance(value, dict):
            return {self.value(key): self.value(value[key]) for key in value}
        if isinstance(value, Type):
            return Type.read(self.text(value.text))
        if isinstance(value, Program):
            return Program.read(self.text(value.text))
        if isinstance(value, Library):
            return Library.read(*[self.text(line) for line in value.lines])
        if isinstance(value, Room):
            return value.renamed({word: self.name(word) for word in value.atoms})
        return value


def plain_value(value):
    """A value with texts in the place of objects."""
    if isinstance(value, (tuple, list)):
        return value.__class__(plain_value(one) for one in value)
    if isinstance(value, dict):
        return {plain_value(key): plain_value(value[key]) for key in value}
    if isinstance(value, Library):
        return value.lines
    if isinstance(value, Room):
        return value.reach, value.truths
    if isinstance(value, (Type, Program)):
        return value.text
    return value


def plain_sorted(value):
    """A value without any order: rows are told with their items in the order of their texts."""
    if isinstance(value, (tuple, list)):
        return sorted([plain_sorted(one) for one in value], key=repr)
    if isinstance(value, dict):
        return sorted([[plain_sorted(key), plain_sorted(value[key])] for key in value], key=repr)
    return value


def goals():
    cont = CONT.without("x").with_part("y", CONT["x"])
    found = [(library, goal) for library, goal in sample_goals() if "x" not in library] + [(cont, Type.read("c"))]
    found += random_goals(201, 50, parts=4, places=5) + random_goals(202, 30, parts=3, places=4, atoms="ab")
    return [(library, goal) for library, goal in found if len(asked(first_of(library, goal))) <= 25]


def told(call):
    """What a call returns, or the error that it raises, with what it keeps."""
    try:
        return call()
    except (BuildError, NoProgram, TooMany, Refused) as error:
        return error.__class__.__name__, list(vars(error).values())


def asked_of(library, goal, rename):
    """Pairs of a name and a call, of all stages: what they return depends on words, and not on their order."""
    questions = Questions(library, goal)
    other = Library({name + "o": library[name] for name in library.names[::2]})
    menu = tuple(rename.value(Type.read(text)) for text in ["a", "a -> b", "b"])
    return [
        ("questions", lambda: [questions.asks, questions.answered, questions.ranks, questions.usable(),
                               str(questions)]),
        ("paper", lambda: built_paper(library, goal)), ("builds", lambda: builds(library, goal)),
        ("sizes", lambda: [least_sizes(library, goal), least_size(library, goal)]),
        ("plans", lambda: [plan for plan in plans(library, goal)]), ("scopes", lambda: scopes_of(library, goal)),
        ("count", lambda: [count(library, goal), counts_upto(library, goal, 6), usable_questions(library, goal)]),
        ("programs", lambda: [one for one in all_programs(library, goal, most=4)]),
        ("uses", lambda: [uses(library, goal), least_parts(library, goal)]),
        ("surplus", lambda: surplus_parts(library)), ("wishes", lambda: least_wishes(library, goal, menu)),
        ("own", lambda: own_puts(library)), ("lacking", lambda: [lacking(library.only(*library.names[::2]), library),
                                                                 does_for(other, library), does_for(library, other)]),
        ("cores", lambda: cores(library)),
        ("shared", lambda: [shared_atoms(library, near, goal) for near in rows_of(library.names)[:6]]),
        ("pass", lambda: [does_pass(library, near, goal, menu[:1]) for near in rows_of(library.names)[:6]]),
        ("draft", lambda: [Draft(library, goal).question(0), Draft(library, goal).choices(0),
                           Draft(library, goal).good_choices(0), Draft(library, goal).ways_to_finish()]),
        ("project", lambda: [Project(library).surplus(), Project(library).does_hold(("builds", goal.text)),
                             Project(library).does_hold(("count", goal.text, 1))])]


def chosen_of(library, goal):
    """Calls that choose by the order of words."""
    program = told(lambda: shortest(library, goal))
    calls = [
        ("shortest", lambda: [program, least_plan(library, goal), planned(library, goal, least_plan(library, goal)),
                              plan_of(library, goal, program)]),
        ("rooms", lambda: [refusal(library, goal)]), ("scope room", lambda: scope_room(library, goal)),
        ("count paper", lambda: count_paper(library, goal)), ("lean", lambda: lean(library)),
        ("pumped", lambda: pumped(library, goal, count_paper(library, goal)[1], 2)),
        ("listing", lambda: [program_at(library, goal, 2), rank_of(library, goal, program),
                             next_program(library, goal, program), Listing(library, goal, 4).between(0, 5)]),
        ("places", lambda: [type_at(library, goal, program, 0), question_at(library, goal, program, 0)]),
        ("use papers", lambda: [use_paper(library, goal, part) for part in library]),
        ("put in", lambda: put_in(library, goal, program, library, own_puts(library))),
        ("applied", lambda: applied(library, goal, program, *[shortest(library, one) for one in goal.inputs])),
        ("order", lambda: [order_paper(library.only(*library.names[1:]), library), translation(library, library),
                           parting_goal(library.only(*library.names[1:]), library)]),
        ("interfaces", lambda: [interface_of(library, near, goal, program) for near in rows_of(library.names)]),
        ("draft", lambda: [Draft(library, goal).finish(), Draft(library, goal).text]),
        ("shell", lambda: list(Shell(library).run_all("library", "surplus", f"builds {goal.text}", f"count {goal.text}",
                                                      f"shortest {goal.text}", f"program 1 {goal.text}"))),
        ("texts", lambda: [write_library(library), write_puts(own_puts(library)),
                           write_ranks(Questions(library, goal).ranks), write_question(Questions(library, goal).first),
                           write_room(refusal(library, goal))])]
    for part in library.names[:2]:
        calls.append(("changes", lambda one=part: [Project(library).trial(
            ("pin", ("useful", one)), ("rename", one, "zzz"), ("unpin", ("useful", "zzz")), ("remove", "zzz"))]))
        calls.append(("news", lambda one=part: [Project(library).remove(one), Project(library).rename(one, "zzz")]))
    return calls


class Renamed(Case):
    def test_the_same_order_of_words(self):
        """All that is told is the same with the other words, word for word."""
        rename = Renaming(with_more_letters)
        many = 0
        for library, goal in goals():
            other, wish = rename.value(library), rename.value(goal)
            plain = Renaming(lambda word: word)
            pairs = zip(asked_of(library, goal, plain) + chosen_of(library, goal),
                        asked_of(other, wish, rename) + chosen_of(other, wish))
            for (name, call), (_, beside) in pairs:
                due = plain_value(rename.value(told(call)))
                self.assertTrue(same(plain_value(told(beside)), due), (name, library.lines, goal.text))
                many += 1
        self.assertGreater(many, 2000)

    def test_another_order_of_words(self):
        """All that does not choose by the order of words is the same but for the order in which it stands."""
        rename = Renaming(turned)
        for library, goal in goals():
            other, wish = rename.value(library), rename.value(goal)
            self.assertEqual(len(other), len(library))
            plain = Renaming(lambda word: word)
            skipped = {"pass", "shared", "lacking"}
            for (name, call), (_, beside) in zip(asked_of(library, goal, plain), asked_of(other, wish, rename)):
                if name not in skipped:
                    due = plain_sorted(plain_value(rename.value(told(call))))
                    self.assertEqual(plain_sorted(plain_value(told(beside))), due, (name, library.lines, goal.text))

    def test_programs_of_the_other_words(self):
        rename = Renaming(turned)
        for library, goal in goals():
            other, wish = rename.value(library), rename.value(goal)
            due = sorted(rename.value(Program(nodes)).nodes for nodes in programs_upto(library, goal, 5))
            self.assertEqual(sorted(nodes for nodes in programs_upto(other, wish, 5)), due)
            self.assertEqual(sorted(one.nodes for one in all_programs(other, wish, most=5)), due)


if __name__ == "__main__":
    unittest.main()
