import random
import unittest

from fromparts.base.libraries import Library
from fromparts.base.types import Type
from fromparts.errors import (InvalidLibrary, InvalidNumber, InvalidOperation, InvalidType, InvalidWord, NothingToUndo,
                              Refused, TooMany, UnknownWord)
from fromparts.use import project as module
from fromparts.use.project import MAX_CHANGES, MAX_SAYINGS, Project
from cases import CONT, NAT, PIPE, TWO, Case, not_words, others, some_type
from record import Record, part_of, plain_holds, plain_news, renamed_saying
from test_questions import Q, wide
from test_uses import FOUR
from values import all_values, same

A = Type.plain("a")
N = Type.plain("n")
AB = Type.read("a -> b")
METHODS = ["put", "remove", "rename", "pin", "unpin"]


def some_saying(rand, names):
    """A saying about parts of these names, which can hold or not."""
    text = some_type(rand, 3, 2, "ab").text
    sayings = [("builds", text), ("lacks", text), ("count", text, rand.choice([None, 0, 1, 2, 4]))]
    if names:
        sayings += [("use", text, rand.choice(names), rand.choice(["every", "some", "none"])),
                    ("useful", rand.choice(names))]
    return rand.choice(sayings)


def some_change(rand, record):
    """A change with good arguments, for a record."""
    _, parts, sayings = record.now()
    names = sorted(parts)
    kinds = ["put"] * 4 + ["pin"] * 3
    if names:
        kinds += ["remove", "remove", "rename", "rename"]
    if sayings:
        kinds += ["unpin"]
    kind = rand.choice(kinds)
    if kind == "put":
        return ("put", rand.choice("fghkpq"), some_type(rand, 3, 2, "ab"))
    if kind == "remove":
        return ("remove", rand.choice(names))
    if kind == "rename":
        name = rand.choice(names)
        free = [other for other in ["fa", "fb", "fc", "g", name] if other == name or other not in names]
        return ("rename", name, rand.choice(free))
    if kind == "unpin":
        return ("unpin", rand.choice(sayings))
    saying = some_saying(rand, names)
    # Most of the time one that holds is pinned.
    for _ in range(20):
        if saying not in sayings and (plain_holds(Library(parts), saying) or rand.random() < 0.1):
            return ("pin", saying)
        saying = some_saying(rand, names)
    return ("put", "f", some_type(rand, 2, 1, "ab"))


class Checking(Case):
    def check(self, project, record):
        """That all that a project tells is as the record has it."""
        _, parts, sayings = record.now()
        self.assertTrue(project.library == Library(parts))
        self.assertTrue(same([project.sayings, project.log, list(project), len(project), str(project)],
                             [sayings, record.log(), sorted(parts), len(parts),
                              f"project of {len(parts)} parts, {len(sayings)} sayings"]))
        self.assertTrue(all(plain_holds(Library(parts), saying) for saying in sayings))

    def made(self, project, change):
        """What a change returns, or the word of its error with what it keeps."""
        try:
            return getattr(project, change[0])(*change[1:])
        except TooMany as error:
            return "TooMany", error.limit
        except Refused as error:
            return "Refused", error.cause
        except InvalidOperation:
            return "InvalidOperation", None

    def turned(self, project, many):
        try:
            return project.undo(many=-many) if many < 0 else project.redo(many=many)
        except NothingToUndo as error:
            return "NothingToUndo", error.amount


class Interface(Checking):
    def test_constants(self):
        self.assertTrue(same([MAX_SAYINGS, MAX_CHANGES], [10, 200]))

    def test_names_and_parameters(self):
        self.assertEqual(Project.__module__, "fromparts.use.project")
        self.assertIs(module.Project, Project)
        self.assertEqual(self.parameters(Project), ["library"])
        one = Project(NAT)
        for name, many in [("put", 2), ("remove", 1), ("rename", 2), ("pin", 1), ("unpin", 1), ("does_hold", 1),
                           ("surplus", 0), ("trial", 1), ("block", 0), ("during", 1), ("twin", 0)]:
            self.assertEqual(len(self.parameters(getattr(one, name))), many)
        for name in ["undo", "redo"]:
            self.assertEqual(self.parameters(getattr(one, name)), ["many"])
            with self.assertRaises(TypeError):
                getattr(one, name)(1)

    def test_methods_stand_in_the_class_itself(self):
        for name in METHODS + ["library", "sayings", "log", "does_hold", "surplus", "trial", "block", "during", "undo",
                               "redo", "twin", "__contains__", "__len__", "__iter__", "__eq__", "__str__"]:
            self.assertIn(name, vars(Project))

    def test_examples(self):
        project = Project(CONT)
        self.assertTrue(same([project.pin(("builds", "c")), project.put("y", Type.read("a -> b")),
                              project.does_hold(("use", "c", "x", "some")), project.does_hold(("count", "c", 2)),
                              project.surplus()], [(), (("y", "new"),), True, True, ("y",)]))
        self.assertTrue(same([project.remove("x"), project.rename("y", "yy"), project.log, str(project)],
                             [(("x", "gone"), ("y", "useful")), (("y", "gone"), ("yy", "new")),
                              ("pin", "put", "remove", "rename"), "project of 2 parts, 1 sayings"]))
        self.assertEqual(self.refused(Refused, project.remove, "yy").cause, ("builds", "c"))

    def test_a_new_project(self):
        for library in [Library(), NAT, PIPE, FOUR, wide(11)]:
            one = Project(library)
            self.assertTrue(one.library == library)
            self.assertTrue(same([one.sayings, one.log, list(one), len(one)], [(), (), list(library), len(library)]))
        for value in others(Library):
            self.refused(InvalidLibrary, Project, value)


class Changes(Checking):
    def test_rows_of_changes(self):
        """Changes, undo and redo, against the record of all versions."""
        seen = {}
        for seed in range(24):
            rand = random.Random(seed)
            library = [Library(), FOUR, PIPE, Library.read("f : a -> a", "g : a")][seed % 4]
            project, record = Project(library), Record(library)
            for _ in range(45):
                if rand.random() < 0.3:
                    many = rand.choice([-1, -1, -2, -3, 0, 1, 1, 2, 3])
                    due, found = record.turn(many), self.turned(project, many)
                else:
                    change = some_change(rand, record)
                    due, found = record.change(change), self.made(project, change)
                self.assertTrue(same(found, due), (found, due))
                self.check(project, record)
                word = due[0] if due and isinstance(due[0], str) else "news"
                seen[word] = seen.get(word, 0) + 1
                for pair in due if word == "news" else ():
                    seen[pair[1]] = seen.get(pair[1], 0) + 1
        self.assertGreater(min(seen[word] for word in ["news", "Refused", "NothingToUndo", "InvalidOperation", "new",
                                                       "gone", "surplus", "useful"]), 10)

    def test_trials_blocks_and_twins(self):
        for seed in range(12):
            rand = random.Random(100 + seed)
            project, record = Project(FOUR), Record(FOUR)
            for _ in range(12):
                for _ in range(3):
                    change = some_change(rand, record)
                    self.assertTrue(same(self.made(project, change), record.change(change)))
                if rand.random() < 0.5:
                    self.turned(project, -1)
                    record.turn(-1)
                self.check_trial(rand, project, record)
                self.check_block(rand, project, record)
                self.check_twin(rand, project, record)

    def check_trial(self, rand, project, record):
        beside, changes, due = record.copy(), [], []
        for _ in range(rand.randint(0, 4)):
            changes.append(some_change(rand, beside))
            due.append(beside.change(changes[-1]))
        wrong = [found for found in due if found and isinstance(found[0], str)]
        try:
            found = project.trial(*changes)
        except TooMany as error:
            self.assertEqual(("TooMany", error.limit), wrong[0])
        except Refused as error:
            self.assertEqual(("Refused", error.cause), wrong[0])
        except InvalidOperation:
            self.assertEqual(("InvalidOperation", None), wrong[0])
        else:
            self.assertTrue(same(found, tuple(due)))
        self.check(project, record)

    def check_block(self, rand, project, record):
        beside = record.copy()
        try:
            with project.block() as inner:
                self.assertIs(inner, project)
                for _ in range(3):
                    change = some_change(rand, beside)
                    self.assertTrue(same(self.made(inner, change), beside.change(change)))
                self.assertTrue(same(self.turned(inner, -2), beside.turn(-2)))
                self.check(project, beside)
                if rand.random() < 0.5:
                    raise KeyError("from within")
        except KeyError as error:
            self.assertEqual(error.args, ("from within",))
        self.check(project, record)
        # What could be done again can still be.
        copy = record.copy()
        self.assertTrue(same(self.turned(project.twin(), 1), copy.turn(1)))

    def check_twin(self, rand, project, record):
        twin, beside = project.twin(), record.copy()
        self.assertTrue(twin == project)
        self.check(twin, beside)
        for many in [1, -2, 1, 1, -9]:
            self.assertTrue(same(self.turned(twin, many), beside.turn(many)))
        change = some_change(rand, beside)
        self.assertTrue(same(self.made(twin, change), beside.change(change)))
        self.check(twin, beside)
        self.check(project, record)

    def test_news(self):
        project = Project(FOUR)
        self.assertTrue(same(project.remove("f"), (("f", "gone"),)))
        self.assertTrue(same(project.remove("y"), (("y", "gone"), ("z", "useful"))))
        self.assertTrue(same(project.undo(many=2), plain_news(FOUR.without("f", "y"), FOUR)))
        project = Project(Library.read("f : a"))
        self.assertTrue(same([project.put("g", A), project.put("g", AB), project.put("g", AB), project.put("g", A),
                              project.remove("g"), project.put("f", N), project.put("h", A >> N)],
                             [(("f", "surplus"), ("g", "new")), (("f", "useful"), ("g", "useful")), (),
                              (("f", "surplus"), ("g", "surplus")), (("f", "useful"), ("g", "gone")), (),
                              (("h", "new"),)]))
        # Some changes that are taken back, or done again, at once have the news of one change.
        self.assertTrue(same(project.undo(many=7), (("h", "gone"),)))
        self.assertTrue(same(project.redo(many=3), (("g", "new"),)))
        self.assertTrue(same(project.redo(), (("f", "surplus"), ("g", "surplus"))))

    def test_a_change_counts_also_if_all_stays_equal(self):
        project = Project(NAT)
        self.assertEqual([project.put("s", NAT["s"]), project.rename("s", "s"), project.log],
                         [(), (), ("put", "rename")])
        self.assertEqual(project.undo(), ())
        self.assertEqual([project.log, project.redo(), project.log], [("put",), (), ("put", "rename")])

    def test_renaming_in_sayings(self):
        project = Project(NAT)
        for saying in [("use", "n", "s", "some"), ("use", "n", "z", "every"), ("useful", "z"), ("builds", "n -> n")]:
            project.pin(saying)
        self.assertEqual(project.rename("s", "n"), (("n", "new"), ("s", "gone")))
        self.assertEqual(project.sayings, (("use", "n", "n", "some"), ("use", "n", "z", "every"), ("useful", "z"),
                                           ("builds", "n -> n")))
        project.rename("z", "s")
        self.assertEqual(project.sayings[1:3], (("use", "n", "s", "every"), ("useful", "s")))
        self.assertTrue(all(project.does_hold(saying) for saying in project.sayings))
        project.undo(many=2)
        self.assertEqual(project.sayings[0], ("use", "n", "s", "some"))
        self.refused(InvalidOperation, project.rename, "s", "z")
        self.refused(InvalidOperation, project.pin, ("useful", "n"))

    def test_refused_with_the_first_saying(self):
        project = Project(NAT)
        sayings = [("lacks", "m"), ("builds", "n"), ("use", "n", "s", "some"), ("count", "n", None), ("lacks", "q")]
        for saying in sayings:
            project.pin(saying)
        for change, cause in [(("remove", "z"), 1), (("put", "q", Type.plain("q")), 4),
                              (("put", "m", Type.plain("m")), 0),
                              (("put", "s", Type.plain("q")), 2), (("put", "z", Type.plain("m")), 0),
                              (("put", "s", Type.plain("n")), 3), (("pin", ("count", "n", 3)), None),
                              (("pin", ("useful", "s")), None)]:
            due = sayings[cause] if cause is not None else change[1]
            self.assertTrue(same(self.made(project, change), ("Refused", due)))
            self.assertEqual([project.library == NAT, project.sayings, project.log],
                             [True, tuple(sayings), ("pin",) * 5])

    def test_a_refused_change_has_no_effect(self):
        project = Project(NAT)
        project.pin(("builds", "n"))
        project.put("y", N)
        project.undo()
        for error, call, arguments in [
                (Refused, project.remove, ("z",)), (UnknownWord, project.remove, ("y",)),
                (InvalidWord, project.put, ("Y", N)), (InvalidType, project.put, ("y", None)),
                (InvalidOperation, project.pin, (("builds", "n"),)),
                (InvalidOperation, project.unpin, (("lacks", "n"),)),
                (UnknownWord, project.rename, ("y", "z")), (InvalidWord, project.rename, ("s", "S")),
                (InvalidOperation, project.rename, ("s", "z")), (NothingToUndo, lambda: project.undo(many=2), ()),
                (NothingToUndo, lambda: project.redo(many=2), ()), (InvalidNumber, lambda: project.undo(many=-1), ()),
                (Refused, project.trial, (("put", "y", N), ("remove", "z"), ("remove", "y"))),
                (InvalidOperation, project.trial, (("put", "y", N), ("remove",)))]:
            self.refused(error, call, *arguments)
            self.assertTrue(same([project.log, project.sayings, list(project)], [("pin",), (("builds", "n"),),
                                                                                 ["s", "z"]]))
        # What can be done again is still there.
        self.assertTrue(same(project.redo(), (("y", "new"), ("z", "surplus"))))


class Bounds(Checking):
    def test_ten_sayings_and_eleven(self):
        project = Project(NAT)
        sayings = [("lacks", letter) for letter in "abcdefghijk"]
        for saying in sayings[:10]:
            self.assertEqual(project.pin(saying), ())
        self.assertTrue(same(self.refused(TooMany, project.pin, sayings[10]).limit, 10))
        # Ahead of a saying that does not hold, and behind one that is pinned.
        self.assertTrue(same(self.refused(TooMany, project.pin, ("builds", "k")).limit, 10))
        self.refused(InvalidOperation, project.pin, sayings[0])
        project.unpin(sayings[3])
        self.assertEqual(project.pin(sayings[10]), ())
        self.assertEqual(project.sayings, tuple(sayings[:3] + sayings[4:]))

    def test_two_hundred_changes_and_more(self):
        project = Project(NAT)
        for at in range(200):
            project.put("y", N if at % 2 else Type.plain("m"))
        self.assertEqual(project.log, ("put",) * 200)
        for call, arguments in [(project.put, ("y", N)), (project.remove, ("y",)), (project.rename, ("y", "x")),
                                (project.pin, (("builds", "n"),)), (project.trial, (("remove", "y"),))]:
            self.assertTrue(same(self.refused(TooMany, call, *arguments).limit, 200))
        self.assertTrue(same(self.refused(TooMany, project.pin, ("builds", "q")).limit, 200))
        project.undo()
        project.pin(("builds", "n"))
        self.assertTrue(same(self.refused(TooMany, project.unpin, ("builds", "n")).limit, 200))
        self.assertTrue(same(self.refused(TooMany, project.remove, "z").limit, 200))
        project.undo(many=200)
        self.assertEqual([project.log, project.library == NAT], [(), True])
        self.assertEqual([project.redo(many=200), len(project.log)], [(("y", "new"),), 200])
        self.assertTrue(same(self.refused(NothingToUndo, lambda: project.redo()).amount, 1))
        self.assertTrue(same(self.refused(NothingToUndo, lambda: project.undo(many=201)).amount, 201))
        # With two hundred changes eleven sayings are told first.
        many = Project(NAT)
        for letter in "abcdefghij":
            many.pin(("lacks", letter))
        for _ in range(190):
            many.rename("s", "s")
        self.assertTrue(same(self.refused(TooMany, many.pin, ("lacks", "k")).limit, 10))

    def test_eight_parts_and_nine(self):
        project = Project(Library({name: N for name in "abcdefgh"}))
        self.assertTrue(same(self.refused(TooMany, project.put, "i", N).limit, 8))
        self.assertEqual(project.put("a", N), ())
        project.pin(("lacks", "q"))
        self.assertTrue(same(self.refused(TooMany, project.put, "i", Q).limit, 8))
        self.assertEqual(self.refused(Refused, project.put, "a", Q).cause, ("lacks", "q"))
        while len(project.log) < 200:
            project.rename("a", "a")
        self.assertTrue(same(self.refused(TooMany, project.put, "i", N).limit, 200))

    def test_parts_of_sayings_that_are_lacking(self):
        project = Project(NAT)
        project.pin(("builds", "n"))
        project.pin(("use", "n", "s", "some"))
        project.pin(("useful", "z"))
        self.refused(InvalidOperation, project.remove, "s")
        # A lacking part is told ahead of a saying that would not hold.
        self.refused(InvalidOperation, project.remove, "z")
        project.unpin(("useful", "z"))
        self.assertEqual(self.refused(Refused, project.remove, "z").cause, ("builds", "n"))
        project.unpin(("use", "n", "s", "some"))
        self.assertEqual(project.remove("s"), (("s", "gone"),))

    def test_too_many_questions_and_digits(self):
        project = Project(NAT.with_part("k", Type.read("q -> k")))
        project.pin(("builds", "n"))
        parts = wide(11).parts
        project.put("u", parts["s"])
        project.put("t", parts["t"])
        # The useful part k is asked for in more than two thousand scopes then; and n is not built.
        self.assertTrue(same(self.refused(TooMany, project.does_hold, ("builds", "q")).limit, 2000))
        for word in ["builds", "lacks"]:
            self.assertTrue(same(self.refused(TooMany, project.pin, (word, "q")).limit, 2000))
        self.assertTrue(same(self.refused(TooMany, project.pin, ("count", "q", 0)).limit, 2000))
        self.assertTrue(same(self.refused(TooMany, project.pin, ("use", "q", "s", "some")).limit, 2000))
        other = Project(wide(11).with_part("z", Q))
        for call in [other.surplus, lambda: other.put("y", N), lambda: other.does_hold(("useful", "z"))]:
            self.assertTrue(same(self.refused(TooMany, call).limit, 2000))
        self.assertEqual([other.pin(("lacks", "y")), other.log], [(), ("pin",)])
        # Ahead of a saying that does not hold.
        self.assertTrue(same(self.refused(TooMany, other.put, "y", Type.plain("y")).limit, 2000))
        lines = [f"{name} : " + " -> ".join([inner] * 14 + [outer]) for name, inner, outer in zip("pqr", "bcd", "abc")]
        huge = Project(Library.read(*lines, "y : d", "z : d"))
        for many in [None, 0, 5]:
            self.assertTrue(same(self.refused(TooMany, huge.does_hold, ("count", "a", many)).limit, 60))
        self.assertTrue(same(self.refused(TooMany, huge.pin, ("count", "a", 1)).limit, 60))
        self.assertIs(huge.does_hold(("builds", "a")), True)


class Sayings(Checking):
    def test_which_sayings_hold(self):
        rand = random.Random(171)
        held, lost = {}, {}
        for library in [FOUR, NAT, PIPE, CONT, TWO, Library(), Library.read("f : a -> a", "g : a", "h : b -> a")]:
            project = Project(library)
            for _ in range(80):
                saying = some_saying(rand, list(library))
                due = plain_holds(library, saying)
                self.assertIs(project.does_hold(saying), due)
                table = held if due else lost
                table[saying[0]] = table.get(saying[0], 0) + 1
                if due:
                    twin = project.twin()
                    self.assertEqual([twin.pin(saying), twin.sayings, twin.does_hold(saying)], [(), (saying,), True])
                    self.assertEqual([twin.unpin(saying), twin.sayings], [(), ()])
                else:
                    self.assertTrue(same(self.refused(Refused, project.pin, saying).cause, saying))
        self.assertEqual([len(held), len(lost)], [5, 5])

    def test_values_that_are_no_sayings(self):
        project = Project(NAT)
        for saying in [("builds", "n"), ("lacks", "n"), ("count", "n", None), ("count", "n", 0),
                       ("count", "n", 10 ** 59),
                       ("use", "n", "s", "some"), ("use", "n", "z", "every"), ("use", "m", "z", "none"),
                       ("useful", "s")]:
            self.assertIn(project.does_hold(saying), [True, False])
        wrong = all_values() + [
            ("builds",), ("builds", "N"), ("builds", "n", "n"), ["builds", "n"], ("builds", N), ("builds", None),
            ("builds", "(n)"), ("lacks", "n -> (n)"), ("lacks", ["n"]), ("Builds", "n"), ("count", "n"),
            ("count", "n", -1), ("count", "n", True), ("count", "n", False), ("count", "n", "1"),
            ("count", "n", 10 ** 60), ("count", "n", [1]), ("count", "n", 1, 1), ("use", "n", "s"),
            ("use", "n", "q", "some"), ("use", "n", "s", "Some"), ("use", "n", "s", None), ("use", "n", ["s"], "some"),
            ("use", "n", "s", "some", 1), ("use", "N", "s", "some"), ("use", "n", "s", ["some"]), ("useful", "q"),
            ("useful",), ("useful", "s", "z"), ("useful", ("s",)), ("useful", None), ("useless", "s"),
            (("builds",), "n"),
            (None, "n"), (1, "n"), ("pin", "n")]
        for value in wrong:
            for call in [project.does_hold, project.pin, project.unpin]:
                self.refused(InvalidOperation, call, value)
        self.assertEqual(project.log, ())

    def test_pinned_twice_and_not_pinned(self):
        project = Project(NAT)
        project.pin(("count", "n", None))
        self.refused(InvalidOperation, project.pin, ("count", "n", None))
        self.refused(InvalidOperation, project.unpin, ("count", "n", 1))
        self.refused(InvalidOperation, project.unpin, ("builds", "n"))
        project.pin(("builds", "n"))
        self.assertEqual([project.sayings, project.unpin(("count", "n", None)), project.sayings],
                         [(("count", "n", None), ("builds", "n")), (), (("builds", "n"),)])


class Going(Checking):
    """Undo and redo, blocks, trials, twins: their forms and errors."""

    def test_numbers_that_are_none(self):
        project = Project(NAT)
        project.put("y", N)
        project.undo()
        for value in [value for value in all_values() if value.__class__ is not int or not 0 <= value < 10 ** 60]:
            for name in ["undo", "redo"]:
                call = getattr(project, name)
                self.assertTrue(same(self.refused(InvalidNumber, lambda one=value, go=call: go(many=one)).number,
                                     value))
        for many in [1, 7, 10 ** 59]:
            self.assertTrue(same(self.refused(NothingToUndo, lambda one=many: project.undo(many=one)).amount, many))
        for many in [2, 7, 10 ** 60 - 1]:
            self.assertTrue(same(self.refused(NothingToUndo, lambda one=many: project.redo(many=one)).amount, many))
        self.assertEqual([project.undo(many=0), project.redo(many=0), project.log], [(), (), ()])
        self.assertEqual([project.redo(), project.log], [(("y", "new"), ("z", "surplus")), ("put",)])

    def test_a_change_ends_what_can_be_done_again(self):
        project = Project(NAT)
        project.put("y", N)
        project.remove("y")
        project.undo(many=2)
        self.refused(UnknownWord, project.remove, "y")
        self.assertEqual(project.trial(("put", "y", N)), ((("y", "new"), ("z", "surplus")),))
        self.assertEqual(project.redo(), (("y", "new"), ("z", "surplus")))
        project.pin(("builds", "n"))
        self.assertTrue(same(self.refused(NothingToUndo, project.redo).amount, 1))

    def test_blocks(self):
        project = Project(NAT)
        project.put("y", N)
        project.undo()
        block = project.block()
        project.pin(("builds", "n"))
        with block as same_one:
            self.assertIs(same_one, project)
            same_one.put("q", Q)
            with project.block() as inner:
                inner.remove("q")
                inner.undo(many=3)
                self.assertEqual(project.log, ())
            self.assertEqual(project.log, ("pin", "put"))
            # The same block within itself.
            with block:
                project.remove("q")
            self.assertEqual([project.log, "q" in project], [("pin", "put"), True])
        self.assertEqual([project.log, list(project), project.sayings], [("pin",), ["s", "z"], (("builds", "n"),)])
        with self.assertRaises(Refused):
            with project.block() as inner:
                inner.put("w", N)
                inner.pin(("lacks", "n"))
        self.assertEqual(list(project), ["s", "z"])
        with project.block():
            pass
        self.assertEqual(project.log, ("pin",))

    def test_during(self):
        project = Project(NAT)
        project.put("y", N)
        project.undo()

        def call(inner):
            self.assertIs(inner, project)
            inner.remove("z")
            return inner.log, inner.does_hold(("builds", "n")), list(inner)

        self.assertEqual(project.during(call), (("remove",), False, ["s"]))
        self.assertEqual([project.log, list(project)], [(), ["s", "z"]])
        self.assertEqual(project.redo(), (("y", "new"), ("z", "surplus")))
        self.assertIs(project.during(lambda inner: None), None)
        self.assertIs(project.during(lambda inner: inner), project)
        with self.assertRaises(ZeroDivisionError):
            project.during(lambda inner: inner.remove("y") and 1 // 0)
        self.assertEqual(list(project), ["s", "y", "z"])

    def test_trials(self):
        project = Project(NAT)
        self.assertEqual(project.trial(), ())
        found = project.trial(("put", "y", N), ("rename", "y", "x"), ("pin", ("builds", "n")),
                              ("unpin", ("builds", "n")), ("remove", "x"))
        self.assertTrue(same(found, ((("y", "new"), ("z", "surplus")), (("x", "new"), ("y", "gone")), (), (),
                                     (("x", "gone"), ("z", "useful")))))
        self.assertEqual([project.log, list(project)], [(), ["s", "z"]])
        wrong = all_values() + [("put",), ("put", "y"), ("put", "y", N, 1), ("remove",), ("remove", "z", "s"),
                                ("rename", "s"), ("pin",), ("unpin", ("builds", "n"), 1), ["remove", "z"],
                                ("Put", "y", N),
                                ("undo",), ("twin",), ("does_hold", ("builds", "n")), (["put"], "y", N), ("library",),
                                ("trial", ("remove", "z")), ((), "y")]
        for value in wrong:
            self.refused(InvalidOperation, project.trial, value)
            # The form of each change is looked at ahead of what the changes do.
            self.refused(InvalidOperation, project.trial, ("remove", "q"), value)
        for error, changes in [(UnknownWord, [("remove", "q")]), (InvalidWord, [("put", "Q", None)]),
                               (InvalidType, [("put", "y", N), ("put", "q", 1), ("remove", "q")]),
                               (UnknownWord, [("remove", "z"), ("remove", "z")]),
                               (InvalidOperation, [("rename", "s", "z")]), (InvalidOperation, [("pin", None)]),
                               (Refused, [("pin", ("builds", "n")), ("remove", "z"), ("put", "Q", 1)])]:
            self.refused(error, project.trial, *changes)
            self.assertEqual(project.log, ())

    def test_twins(self):
        project = Project(NAT)
        project.put("y", N)
        project.pin(("builds", "n"))
        project.undo()
        twin = project.twin()
        self.assertTrue(twin == project)
        self.assertEqual([twin.redo(), twin.log, project.log], [(), ("put", "pin"), ("put",)])
        self.assertFalse(twin == project)
        self.assertEqual([project.remove("y"), list(twin)], [(("y", "gone"), ("z", "useful")), ["s", "y", "z"]])
        self.assertEqual([twin.undo(many=2), list(twin)], [(("y", "gone"), ("z", "useful")), ["s", "z"]])

    def test_equality_and_membership(self):
        one, other = Project(NAT), Project(NAT.without("z"))
        self.assertIs(one == other, False)
        other.put("z", N)
        self.assertEqual([one == other, one != other], [True, False])
        one.pin(("builds", "n"))
        one.pin(("lacks", "m"))
        other.pin(("lacks", "m"))
        self.assertIs(one == other, False)
        other.pin(("builds", "n"))
        # The sayings are pinned in another order.
        self.assertEqual([one == other, one != other], [False, True])
        for value in all_values():
            self.assertIs(one == value, False)
            self.assertIs(one != value, True)
            self.assertIs(value in one, isinstance(value, str) and value in ("s", "z"))

    def test_errors_of_changes(self):
        project = Project(NAT)
        for value in not_words():
            self.refused(InvalidWord, project.put, value, None)
            self.refused(InvalidWord, project.rename, "s", value)
        for value in others(Type) + ["n"]:
            self.refused(InvalidType, project.put, "y", value)
        for value in [value for value in all_values() if value != "z"] + ["q", ("s",), ["s"]]:
            self.assertTrue(same(self.refused(UnknownWord, project.remove, value).asked, value))
            self.assertTrue(same(self.refused(UnknownWord, project.rename, value, None).asked, value))
        self.assertEqual(project.log, ())

    def test_nothing_that_is_handed_out_changes_it(self):
        project = Project(NAT)
        parts = project.library.parts
        parts.clear()
        saying = ("count", "n", None)
        project.pin(saying)
        self.assertEqual([project.sayings, list(project), saying], [(("count", "n", None),), ["s", "z"],
                                                                    ("count", "n", None)])

    def test_the_record_renames_as_the_document_says(self):
        self.assertEqual([renamed_saying(("use", "s", "s", "some"), "s", "t"),
                          renamed_saying(("builds", "s"), "s", "t"),
                          part_of(("useful", "s")), part_of(("use", "n", "s", "some")), part_of(("builds", "n"))],
                         [("use", "s", "t", "some"), ("builds", "s"), "s", "s", None])


if __name__ == "__main__":
    unittest.main()
