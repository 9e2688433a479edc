"""Long rows of changes of projects: each call answers as by a project that is made anew and changed step by step."""

import random
import sys
import unittest
from unittest import mock

from fromparts.ask.questions import builds
from fromparts.ask.scopes import Scopes
from fromparts.base.libraries import Library
from fromparts.base.types import Type
from fromparts.count.counts import count
from fromparts.errors import (BuildError, InvalidNumber, InvalidOperation, NoProgram, NothingToUndo, Refused, TooMany,
                              UnknownWord)
from fromparts.part.uses import surplus_parts, use_of
from fromparts.use.project import Project
from cases import CONT, NAT, PIPE, TWO, Case, some_type
from record import Record, plain_holds
from test_project import Checking, some_change, some_saying
from test_questions import JUST, Q, wide
from test_uses import FOUR
from values import same

A = Type.plain("a")
N = Type.plain("n")
ERRORS = (BuildError, UnknownWord, TooMany, Refused, NothingToUndo, InvalidNumber)
POOL = [Type.read(text) for text in ["a", "b", "a -> b", "b -> a", "a -> a -> b", "(a -> b) -> c", "b -> c"]]
TEXTS = ["a", "b", "c", "a -> b", "b -> a", "a -> c", "(a -> b) -> c", "(b -> c) -> a", "a -> a"]
# Of nine parts, so that a ninth one can be tried.
NAMES = ["fa", "fb", "fc", "fd", "fe", "ff", "fg", "fh", "fi"]
STARTS = [Library(), FOUR, CONT, PIPE.with_part("y", A), Library({name: A for name in NAMES[:8]})]

# How much is kept of what was found out.
LIMITS = ["fromparts.ask.scopes.MAX_KINDS", "fromparts.ask.scopes.MAX_ANSWERS", "fromparts.use.facts.MAX_FACTS",
          "fromparts.use.facts.MAX_TOLD"]


def do(project, act):
    """What a call returns, or the word of its error with what it keeps. A block is a row of calls within it."""
    name, arguments = act[0], act[1:]
    if name == "block":
        with project.block():
            return [do(project, inner) for inner in arguments]
    try:
        if name in ("undo", "redo"):
            return "fine", getattr(project, name)(many=arguments[0])
        return "fine", getattr(project, name)(*arguments)
    except ERRORS as error:
        return error.__class__.__name__, list(vars(error).items())


def told(project):
    return [project.library.lines, project.sayings, project.log, list(project), len(project), str(project)]


class Steps:
    """The changes that are in effect, and those that can be done again, to make a project anew."""

    def __init__(self, library):
        self.library, self.done, self.undone = library, [], []

    def project(self):
        made = Project(self.library)
        for change in self.done + self.undone:
            getattr(made, change[0])(*change[1:])
        made.undo(many=len(self.undone))
        return made

    def follow(self, act):
        """Takes over a call that was no error."""
        every = self.done + self.undone
        at = len(self.done)
        if act[0] in ("undo", "redo"):
            at += act[1] if act[0] == "redo" else -act[1]
        elif act[0] in ("put", "remove", "rename", "pin", "unpin"):
            every, at = self.done + [act], at + 1
        self.done, self.undone = every[:at], every[at:]


def some_part(rand, project):
    return rand.choice(list(project) or NAMES)


def change_of(rand, project):
    """A change of a project, which can be refused; often one after which all is equal."""
    kind = rand.choice(["equal"] * 5 + ["put"] * 3 + ["remove", "rename", "pin", "pin", "unpin"])
    part = some_part(rand, project)
    if kind == "equal" and part in project:
        return rand.choice([("put", part, project.library[part]), ("rename", part, part)])
    if kind == "remove":
        return ("remove", part)
    if kind == "rename":
        return ("rename", part, rand.choice(NAMES))
    if kind in ("pin", "unpin"):
        return (kind, saying_of(rand, project, kind == "unpin" or rand.random() < 0.1))
    return ("put", rand.choice(NAMES), rand.choice(POOL))


def saying_of(rand, project, is_pinned):
    """A saying, which holds most of the time, or is pinned."""
    if is_pinned and project.sayings:
        return rand.choice(project.sayings)
    for _ in range(8):
        text, part = rand.choice(TEXTS), some_part(rand, project)
        saying = rand.choice([("builds", text), ("lacks", text), ("useful", part),
                              ("count", text, rand.choice([None, 0, 1, 2, 3])),
                              ("use", text, part, rand.choice(["every", "some", "none"]))])
        if do(project, ("does_hold", saying)) == ("fine", True) and saying not in project.sayings:
            break
    return saying


def act_of(rand, project):
    """A call of a project."""
    kind = rand.choice(["change"] * 14 + ["undo", "undo", "redo", "trial", "block", "does_hold", "surplus"])
    if kind == "change":
        return change_of(rand, project)
    if kind in ("undo", "redo"):
        return (kind, rand.choice([0, 1, 1, 1, 2, 3]))
    if kind == "trial":
        return (kind,) + tuple(change_of(rand, project) for _ in range(rand.randint(0, 3)))
    if kind == "block":
        inner = [change_of(rand, project) for _ in range(2)]
        return (kind, inner[0], ("undo", 1), inner[1], ("redo", 1), ("undo", 2), ("surplus",))
    return (kind, saying_of(rand, project, False)) if kind == "does_hold" else (kind,)


def pins(library, many, seed):
    """So many pinned sayings that hold in a library."""
    rand = random.Random(seed)
    project = Project(library)
    while len(project.sayings) < many:
        saying = saying_of(rand, project, False)
        if do(project, ("does_hold", saying)) == ("fine", True):
            do(project, ("pin", saying))
    return [("pin", saying) for saying in project.sayings]


class Rows(Checking):
    def check_anew(self, project, steps, act):
        """That a call answers as by a project that is made anew, and leaves it so."""
        anew = steps.project()
        self.assertTrue(same(told(project), told(anew)))
        due, found = do(anew, act), do(project, act)
        self.assertTrue(same(found, due), (act, found, due))
        self.assertTrue(same(told(project), told(anew)), act)
        if found[0] == "fine":
            steps.follow(act)
        return found

    def test_each_call_as_by_a_project_made_anew(self):
        seen = {}
        for seed, library in enumerate(STARTS):
            rand = random.Random(300 + seed)
            project, steps = Project(library), Steps(library)
            row = pins(library, 10 if seed % 2 else 6, seed)
            for _ in range(130):
                act = row.pop(0) if row else act_of(rand, project)
                found = self.check_anew(project, steps, act)
                word = act[0] if found[0] == "fine" or act[0] == "block" else found[0]
                seen[word] = seen.get(word, 0) + 1
        self.assertGreater(min(seen.get(word, 0) for word in [
            "put", "remove", "rename", "pin", "unpin", "undo", "redo", "trial", "block", "does_hold", "surplus",
            "Refused", "TooMany", "InvalidOperation", "NothingToUndo"]), 4, seen)

    def test_two_hundred_changes_with_ten_sayings(self):
        """All news of a long row, told again by a project that is made anew behind it, and calls at its end."""
        for seed, library in enumerate([FOUR, CONT, PIPE.with_part("y", A)]):
            rand = random.Random(320 + seed)
            project, steps, news = Project(library), Steps(library), []
            row = pins(library, 10, seed)
            while len(project.log) < 200:
                act = row.pop(0) if row else act_of(rand, project)
                found = do(project, act)
                if found[0] != "fine":
                    continue
                steps.follow(act)
                if act[0] in ("undo", "redo"):
                    news = news[:len(steps.done)] + [None] * (len(steps.done) - len(news))
                elif act[0] in ("put", "remove", "rename", "pin", "unpin"):
                    news.append(found[1])
                if len(project.log) % 40 == 0 or len(project.log) > 195:
                    self.assertTrue(same(told(project), told(steps.project())))
            anew = Project(library)
            for change, due in zip(steps.done, news):
                found = do(anew, change)
                self.assertEqual(found[0], "fine")
                # What was done again by redo has told its news as those of all that were done again together.
                if due is not None:
                    self.assertTrue(same(found[1], due))
            for act in [("put", some_part(rand, project), A), ("rename", "fa", "fa"), ("pin", ("lacks", "zz")),
                        ("unpin", project.sayings[0] if project.sayings else None), ("remove", "q"), ("undo", 200),
                        ("redo", 120), ("redo", 81), ("redo", 80), ("undo", 77), ("put", "fi", A), ("redo", 1)]:
                self.check_anew(project, steps, act)

    def test_rows_with_ten_sayings_against_the_record(self):
        """Against the plain search; most changes leave all as it was."""
        for seed, library in enumerate([FOUR, NAT, CONT, TWO]):
            rand = random.Random(340 + seed)
            project, record = Project(library), Record(library)
            for change in self.holding(rand, library, 10):
                self.assertTrue(same(self.made(project, change), record.change(change)))
            for _ in range(120):
                part = rand.choice(list(project)) if len(project) else None
                if rand.random() < 0.2:
                    many = rand.choice([-1, -1, -2, 1, 2])
                    due, found = record.turn(many), self.turned(project, many)
                else:
                    change = some_change(rand, record)
                    if part and rand.random() < 0.6:
                        change = rand.choice([("put", part, project.library[part]), ("rename", part, part)])
                    due, found = record.change(change), self.made(project, change)
                self.assertTrue(same(found, due), (found, due))
                self.check(project, record)

    def holding(self, rand, library, many):
        found = []
        while len(found) < many:
            change = ("pin", some_saying(rand, list(library)))
            if change not in found and plain_holds(library, change[1]):
                found.append(change)
        return found

    def test_projects_that_keep_little(self):
        """Where all that is kept is given up again and again, all is answered as else."""
        small = dict(zip(LIMITS, [4, 2, 2, 3]))
        for seed, library in enumerate(STARTS):
            acts, due = [], []
            rand, project = random.Random(360 + seed), Project(library)
            for act in pins(library, 5, seed) + [None] * 150:
                acts.append(act or act_of(rand, project))
                due.append(do(project, acts[-1]))
            for name in list(small) + [None]:
                limits = [mock.patch(one, small[one]) for one in small if name in (one, None)]
                for limit in limits:
                    limit.start()
                try:
                    project = Project(library)
                    self.assertTrue(same([do(project, act) for act in acts], due))
                finally:
                    for limit in limits:
                        limit.stop()

    def test_many_sayings_and_many_libraries(self):
        """More of them than are kept, each asked twice."""
        rand = random.Random(380)
        project = Project(CONT)
        texts = sorted({some_type(rand, 5, 3, "abc").text for _ in range(900)})
        self.assertGreater(len(texts), 500)
        for _ in range(2):
            for at, text in enumerate(texts):
                self.assertIs(project.does_hold(("builds", text)), builds(CONT, Type.read(text)))
                if at % 5 == 0:
                    self.assertIs(project.does_hold(("count", text, None)), count(CONT, Type.read(text)) is None)
        project.pin(("builds", "c"))
        for _ in range(2):
            for at in range(600):
                kind = Type.read(texts[at % len(texts)])
                name = "y" if at % 3 else "x"
                after = CONT.with_part(name, kind)
                if not builds(after, Type.plain("c")):
                    self.refused(Refused, project.put, name, kind)
                    continue
                found = project.put(name, kind)
                self.assertEqual([part for part, word in found if word == "new"], ["y"] if name == "y" else [])
                self.assertEqual(project.surplus(), surplus_parts(after))
                project.undo()

    def test_what_is_kept_does_not_grow_without_end(self):
        rand = random.Random(390)
        texts = sorted({some_type(rand, 6, 3, "abcd").text for _ in range(1500)})
        self.assertGreater(len(texts), 1000)
        limits = [mock.patch(name, 40) for name in LIMITS]
        for limit in limits:
            limit.start()
        try:
            several = [self.with_many_types(texts), self.with_many_texts(texts), self.with_many_questions(rand)]
        finally:
            for limit in limits:
                limit.stop()
        for project in several:
            self.assertTrue(20 < most_kept(project) < 300, most_kept(project))

    def with_many_types(self, texts):
        project = Project(CONT)
        for text in texts:
            project.does_hold(("lacks", text))
            project.put("y", Type.read(text))
            project.undo()
        return project

    def with_many_texts(self, texts):
        """No saying of these is one."""
        project = Project(CONT)
        for text in texts:
            self.refused(InvalidOperation, project.does_hold, ("count", text, -1))
        return project

    def with_many_questions(self, rand):
        """All of them of a few types."""
        project = Project(Library())
        for _ in range(1500):
            project.put(rand.choice(NAMES[:8]), rand.choice(POOL))
            project.does_hold(("lacks", rand.choice(TEXTS)))
            if len(project.log) == 50:
                project.undo(many=50)
        return project


def most_kept(project):
    """The greatest length of what a project keeps, wherever it does."""
    found, due = {}, [project]
    while due:
        one = due.pop()
        within = []
        if one.__class__.__module__ in ("fromparts.use.project", "fromparts.use.facts", "fromparts.ask.scopes"):
            within = list(vars(one).values())
        elif isinstance(one, (dict, tuple, list)):
            within = list(one.values()) if isinstance(one, dict) else list(one)
        if id(one) not in found:
            found[id(one)] = len(within)
            due.extend(within)
    return max(found.values())


class Answers(Checking):
    """What holds in libraries that come up again, by the functions of the other modules."""

    def holds(self, library, saying):
        word = saying[0]
        if word == "useful":
            return saying[1] not in surplus_parts(library)
        goal = Type.read(saying[1])
        if word == "count":
            return count(library, goal) == saying[2]
        if word == "use":
            try:
                return use_of(library, goal, saying[2]) == saying[3]
            except NoProgram:
                return False
        return builds(library, goal) == (word == "builds")

    def test_sayings_of_libraries_that_come_back(self):
        rand = random.Random(400)
        for library in [FOUR, NAT, CONT, TWO, PIPE]:
            project = Project(library)
            for _ in range(60):
                part = rand.choice(project.library.names)
                do(project, rand.choice([("put", "q", rand.choice(POOL)), ("remove", part), ("undo", 1), ("redo", 1),
                                         ("rename", part, rand.choice(["r", "t", part]))]))
                if not len(project):
                    project.undo()
                for _ in range(4):
                    saying = some_saying(rand, list(project))
                    self.assertIs(project.does_hold(saying), self.holds(project.library, saying))
                self.assertEqual(project.surplus(), surplus_parts(project.library))

    def test_equal_errors_each_time(self):
        """What is asked comes in order, ahead of a saying that does not hold, also where it was asked before."""
        lines = [f"{name} : " + " -> ".join([inner] * 14 + [outer]) for name, inner, outer in zip("pqr", "bcd", "abc")]
        project = Project(Library.read(*lines, "y : d"))
        project.pin(("count", "d", 1))
        project.pin(("count", "a", 1))
        for _ in range(3):
            # With two of d the first saying does not hold, and the number of the second one has too many digits.
            self.assertTrue(same(self.refused(TooMany, project.put, "z", Type.plain("d")).limit, 60))
            self.assertEqual(self.refused(Refused, project.put, "z", Type.plain("c")).cause, ("count", "a", 1))
            self.assertTrue(same(self.refused(TooMany, project.trial, ("put", "z", Type.plain("d"))).limit, 60))
            self.assertEqual([project.put("y", Type.plain("d")), project.rename("y", "y")], [(), ()])
        project.unpin(("count", "a", 1))
        for _ in range(3):
            self.assertEqual(self.refused(Refused, project.put, "z", Type.plain("d")).cause, ("count", "d", 1))
        project.unpin(("count", "d", 1))
        project.put("z", Type.plain("d"))
        for name in ["z", "zz", "z", "w"]:
            project.rename(project.library.names[-1], name)
            self.assertTrue(same(self.refused(TooMany, project.pin, ("count", "a", None)).limit, 60))

    def test_equal_errors_of_the_news(self):
        """Of a change from a library with too many questions, or to one."""
        project = Project(wide(11).with_part("z", Q))
        for _ in range(3):
            for call in [project.surplus, lambda: project.put("y", N), lambda: project.rename("z", "y"),
                         lambda: project.remove("z"), lambda: project.does_hold(("useful", "z"))]:
                self.assertTrue(same(self.refused(TooMany, call).limit, 2000))
            self.assertEqual([project.put("z", Q), project.rename("z", "z")], [(), ()])
            self.assertIs(project.does_hold(("lacks", "z")), True)
        self.assertEqual(project.log, ("put", "rename") * 3)
        parts = wide(11).parts
        project = Project(Library({"s": parts["s"], "z": Q, "y": N}))
        project.pin(("lacks", "y"))
        for _ in range(3):
            self.assertTrue(same(self.refused(TooMany, project.put, "t", parts["t"]).limit, 2000))
            self.assertEqual(self.refused(Refused, project.put, "t", Type.plain("y")).cause, ("lacks", "y"))
        self.assertEqual([project.rename("y", "yy"), project.log], [(("y", "gone"), ("yy", "new")), ("pin", "rename")])

    def test_sayings_are_asked_ahead_of_the_news(self):
        """Where the saying has too many digits, and the news too many questions."""
        lines = [f"{name} : " + " -> ".join([inner] * 14 + [outer]) for name, inner, outer in zip("pqr", "bcd", "abc")]
        wide_ones = [" -> ".join([f"({letter} -> q)" for letter in row] + ["q"]) for row in ["efghijk", "lmno"]]
        library = Library.read(*lines, f"s : {wide_ones[0]}", f"t : {wide_ones[1]}", "w : q", "y : d")
        project = Project(library)
        project.pin(("count", "a", 1))
        for _ in range(2):
            self.assertTrue(same(self.refused(TooMany, project.put, "z", Type.plain("d")).limit, 60))
            self.assertTrue(same(self.refused(TooMany, project.put, "z", Type.plain("e")).limit, 2000))
            self.assertTrue(same(self.refused(TooMany, project.surplus).limit, 2000))

    def test_just_as_many_questions_as_are_let(self):
        project = Project(JUST.with_part("w", Type.read("q -> y")))
        for _ in range(2):
            # Two thousand questions, and one more, though all but this one have been asked.
            self.assertIs(project.does_hold(("lacks", "q")), True)
            self.assertTrue(same(self.refused(TooMany, project.does_hold, ("lacks", "y")).limit, 2000))
            for text in ["c -> q", "((c -> q) -> (d -> q) -> q) -> q", "m -> q"]:
                self.assertIs(project.does_hold(("builds", text)), False)

    def test_integers_and_booleans_are_not_taken_for_one_another(self):
        project = Project(PIPE)
        self.assertIs(project.does_hold(("count", "a -> b", 1)), True)
        self.assertIs(project.does_hold(("count", "a", 0)), True)
        for saying in [("count", "a -> b", True), ("count", "a", False)]:
            self.assertEqual(do(project, ("does_hold", saying))[0], "InvalidOperation")
            self.assertEqual(do(project, ("pin", saying))[0], "InvalidOperation")

    def test_twins_and_trials_change_by_themselves(self):
        """What one has found out is good for the other one, and changes nothing in it."""
        project = Project(NAT)
        project.pin(("useful", "z"))
        twin = project.twin()
        self.assertEqual(self.refused(Refused, twin.put, "y", N).cause, ("useful", "z"))
        twin.unpin(("useful", "z"))
        self.assertEqual(twin.put("y", N), (("y", "new"), ("z", "surplus")))
        self.assertEqual(self.refused(Refused, project.put, "y", N).cause, ("useful", "z"))
        self.assertEqual([project.surplus(), twin.surplus()], [("s",), ("s", "y", "z")])
        self.assertEqual(project.trial(("unpin", ("useful", "z")), ("put", "y", N), ("rename", "y", "x")),
                         ((), (("y", "new"), ("z", "surplus")), (("x", "new"), ("y", "gone"))))
        self.assertEqual([list(project), project.log, twin.log], [["s", "z"], ("pin",), ("pin", "unpin", "put")])


def calls_in(action):
    """How many calls of functions of the package an action makes; those of comprehensions are left out."""
    many = 0

    def told_of(frame, event, _):
        nonlocal many
        code = frame.f_code
        if event == "call" and "fromparts" in code.co_filename and not code.co_name.startswith("<"):
            many += 1

    before = sys.getprofile()
    sys.setprofile(told_of)
    try:
        action()
    finally:
        sys.setprofile(before)
    return many


def long_row():
    """Eight parts, ten sayings, and the same part put again, up to two hundred changes."""
    project = Project(Library())
    news = [project.put(name, Type.plain(name)) for name in "abcdefgh"]
    news.append(project.rename("a", "a"))
    for text in list("abcdefgh") + ["a -> a", "b -> b"]:
        news.append(project.pin(("builds", text)))
    for _ in range(181):
        news.append(project.put("a", Type.plain("a")))
    return project, news


class Effort(Case):
    """How much is asked, told by calls and not by time, which differs from run to run."""

    def asked_in(self, action):
        """How many questions an action asks with all that come up from them."""
        with mock.patch.object(Scopes, "choices_from", autospec=True, side_effect=Scopes.choices_from) as asked:
            action()
        return asked.call_count

    def test_the_long_row(self):
        project, news = long_row()
        self.assertTrue(same(news, [((name, "new"),) for name in "abcdefgh"] + [()] * 192))
        self.assertTrue(same(self.refused(TooMany, project.put, "a", A).limit, 200))
        self.assertTrue(same(project.undo(many=200), tuple((name, "gone") for name in "abcdefgh")))
        self.assertEqual([len(project), project.log, project.sayings], [0, (), ()])
        self.assertTrue(same(project.redo(many=200), tuple((name, "new") for name in "abcdefgh")))
        self.assertEqual([len(project.log), len(project.sayings)], [200, 10])
        # It took more than two hundred thousand calls where each change asked anew what was pinned.
        self.assertLess(calls_in(lambda: long_row()[0].undo(many=200)), 15000)

    def test_equal_changes_ask_nothing(self):
        project = Project(FOUR)
        for change in pins(FOUR, 9, 7):
            project.pin(change[1])
        project.put("f", FOUR["f"])

        def equal_ones():
            for part in FOUR:
                project.put(part, FOUR[part])
                project.rename(part, part)
            saying = project.sayings[3]
            project.unpin(saying)
            project.pin(saying)
            project.undo(many=5)
            project.redo(many=2)
            project.trial(("put", "f", FOUR["f"]), ("rename", "g", "g"))
            with project.block():
                project.unpin(saying)
            self.assertIs(project.twin().does_hold(saying), True)

        self.assertEqual(self.asked_in(equal_ones), 0)

    def test_what_comes_back_asks_nothing(self):
        project = Project(FOUR)
        for saying in [("builds", "b"), ("count", "b", 7), ("lacks", "c"), ("use", "b", "g", "some")]:
            if project.does_hold(saying):
                project.pin(saying)
        self.assertGreater(len(project.sayings), 2)

        def row():
            project.put("q", A)
            project.remove("q")
            project.rename("f", "q")
            project.rename("q", "f")
            project.put("z", Type.plain("b"))
            self.refused(Refused, project.put, "z", Type.plain("c"))
            self.refused(Refused, project.trial, ("put", "q", Type.plain("c")))
            project.surplus()
            project.undo(many=3)
            project.redo(many=2)
            project.undo(many=2)

        self.assertGreater(self.asked_in(row), 0)
        self.assertEqual(self.asked_in(row), 0)

    def test_other_long_rows(self):
        """Rows that go to and fro between a few libraries take few calls for each change."""
        for library in [FOUR, NAT, CONT]:
            sayings = [("builds" if builds(library, Type.read(text)) else "lacks", text) for text in TEXTS + ["b -> c"]]

            def action(library=library, sayings=sayings):
                project = Project(library)
                for saying in sayings:
                    project.pin(saying)
                for _ in range(60):
                    # One more part of a type that there is builds nothing more.
                    project.put("q", library[library.names[0]])
                    project.rename("q", "r")
                    project.remove("r")
                project.undo(many=180)
                project.redo(many=90)

            # It took more than two hundred thousand where all was asked anew.
            self.assertLess(calls_in(action), 30000, library.lines)


if __name__ == "__main__":
    unittest.main()
