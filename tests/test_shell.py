import random
import unittest

from fromparts import errors
from fromparts.ask.building import least_size, shortest
from fromparts.ask.questions import builds
from fromparts.base.libraries import Library
from fromparts.base.programs import Program, is_program
from fromparts.base.types import Type
from fromparts.count.counts import count
from fromparts.count.listing import program_at, rank_of
from fromparts.errors import InvalidLibrary, InvalidOperation, NoProgram
from fromparts.part.uses import surplus_parts, use_of
from fromparts.text import shell
from fromparts.text.shell import Shell
from cases import CONT, NAT, PIPE, TWO, Case, others, random_goals, sample_goals
from test_questions import wide
from test_uses import DEEP, DEEP_GOAL, FORTY, FOUR
from values import all_values, same

N = Type.plain("n")
NAMES = ["BuildError", "InvalidWord", "InvalidType", "InvalidLibrary", "InvalidProgram", "InvalidQuestion",
         "InvalidRoom", "InvalidDraft", "InvalidOperation", "ParseError", "UnknownWord", "NoProgram", "NothingToUndo",
         "TooMany", "Refused", "InvalidNumber"]
OWN = tuple(getattr(errors, name) for name in NAMES)


def told(call):
    """The answer that a call leads to: what it returns, or the error."""
    try:
        return call()
    except OWN as error:
        return "error " + error.__class__.__name__


def due_answer(library, command):
    """The answer that is due to a command that has the form of one, told by the functions it stands for."""
    word, _, rest = command.partition(" ")
    goal = Type.read(rest.rpartition(" : ")[2] if " : " in rest else rest.partition(" ")[2] if word in (
        "use", "program") else rest) if word not in ("drop", "library", "surplus") else None
    first = rest.partition(" : ")[0] if " : " in rest else rest.partition(" ")[0]
    calls = {"library": lambda: "\n".join(library.lines) or "none", "surplus": lambda: " ".join(surplus_parts(library))
             or "none", "builds": lambda: "yes" if builds(library, goal) else "no",
             "shortest": lambda: shortest(library, goal).text if builds(library, goal) else "none",
             "count": lambda: "endless" if count(library, goal) is None else str(count(library, goal)),
             "program": lambda: program_at(library, goal, int(first)).text,
             "rank": lambda: str(rank_of(library, goal, Program.read(first))),
             "use": lambda: use_of(library, goal, first),
             "kind": lambda: "yes" if is_program(library, goal, Program.read(first)) else "no",
             "part": lambda: library.with_part(first, goal) and "ok", "drop": lambda: library.without(rest) and "ok"}
    try:
        return told(calls[word]) if word not in ("use", "program") else calls[word]()
    except NoProgram:
        return "none built" if word == "use" else "none"
    except OWN as error:
        return "error " + error.__class__.__name__


class Interface(Case):
    def test_names_and_parameters(self):
        self.assertEqual(Shell.__module__, "fromparts.text.shell")
        self.assertIs(shell.Shell, Shell)
        self.assertEqual(self.parameters(Shell), ["library"])
        one = Shell(NAT)
        for name, parameters in [("run", ["command"]), ("run_all", ["commands"])]:
            self.assertEqual(self.parameters(getattr(one, name)), parameters)
        for name in ["library", "answers", "run", "run_all"]:
            self.assertIn(name, vars(Shell))

    def test_example(self):
        found = Shell(NAT).run_all("builds n", "shortest n", "count n", "program 2 n", "rank s z : n", "use s n",
                                   "surplus",
                                   "drop q", "part f : n -> m", "count m -> n", "kind s z : m")
        self.assertTrue(same(found, ("yes", "z", "endless", "s (s z)", "1", "some", "s", "error UnknownWord", "ok",
                                     "endless", "no")))

    def test_errors(self):
        for value in others(Library):
            self.refused(InvalidLibrary, Shell, value)
        one = Shell(NAT)
        for value in others(str) + [["library"], b"library"]:
            self.refused(InvalidOperation, one.run, value)
            self.refused(InvalidOperation, one.run_all, "drop z", value)
        self.assertTrue(same([one.answers, one.library.lines], [(), NAT.lines]))

    def test_no_iteration(self):
        with self.assertRaises(TypeError):
            iter(Shell(NAT))


class Commands(Case):
    def test_library(self):
        one = Shell(Library())
        self.assertTrue(same(one.run_all("library", "part z : n", "library", "part s : n -> n", "library", "part z : m",
                                         "library", "drop s", "library", "drop z", "library"),
                             ("none", "ok", "z : n", "ok", "s : n -> n\nz : n", "ok", "s : n -> n\nz : m", "ok",
                              "z : m",
                              "ok", "none")))
        self.assertEqual(one.library.lines, ())

    def test_answers_of_all_commands(self):
        for library, goal in sample_goals() + random_goals(191, 60) + [(FOUR, Type.plain("b")), (TWO, N)]:
            one = Shell(library)
            commands = ["library", "surplus", f"builds {goal.text}", f"shortest {goal.text}", f"count {goal.text}"]
            commands += [f"program {rank} {goal.text}" for rank in range(4)]
            commands += [f"use {part} {goal.text}" for part in list(library) + ["qqq"]]
            if builds(library, goal) and least_size(library, goal) <= 6:
                for rank in range(3):
                    text = one.run(f"program {rank} {goal.text}")
                    if text != "none":
                        commands += [f"rank {text} : {goal.text}", f"kind {text} : {goal.text}", f"kind {text} : zz",
                                     f"rank {text} : zz -> zz"]
            kept = len(one.answers)
            found = one.run_all(*commands)
            for command, answer in zip(commands, found):
                self.assertEqual(answer, due_answer(library, command), command)
            self.assertTrue(same(one.answers[kept:], tuple(zip(commands, found))))
            self.assertTrue(one.library == library)

    def test_answers_that_are_words(self):
        self.assertTrue(same(Shell(PIPE).run_all("builds c", "shortest c", "count c", "program 0 c", "use f c",
                                                 "surplus",
                                                 "builds a -> c", "shortest a -> c", "count a -> c", "program 0 a -> c",
                                                 "program 1 a -> c", "use f a -> c"),
                             ("no", "none", "0", "none", "none built", "none", "yes", "\\x0. g (f x0)", "1",
                              "\\x0. g (f x0)", "none", "every")))
        self.assertTrue(same(Shell(CONT).run_all("use k c", "use x c", "kind k (\\x0. x) : c", "kind k (\\x0. x0) : c",
                                                 "rank k (\\x0. x) : c"), ("every", "every", "yes", "no", "0")))
        self.assertTrue(same(Shell(FOUR).run_all("surplus", "use z b", "drop y", "surplus", "use f b"),
                             ("f g z", "some", "ok", "f g", "none")))

    def test_errors_of_calls(self):
        one = Shell(Library({name: N for name in "abcdefgh"}))
        for command, answer in [("part i : n", "error InvalidLibrary"), ("part A : n", "error InvalidWord"),
                                ("part x0 : n", "error InvalidWord"), ("part abcdefghi : n", "error InvalidWord"),
                                ("drop i", "error UnknownWord"), ("drop A", "error UnknownWord"),
                                ("use i n", "error UnknownWord"), ("use A m", "error UnknownWord"),
                                ("program -1 n", "error InvalidNumber"), ("program -1 m", "error InvalidNumber"),
                                ("rank a : m", "error InvalidProgram"), ("rank \\x0. x0 : n", "error InvalidProgram"),
                                ("rank i : n", "error InvalidProgram"), ("part h : m", "ok"), ("drop h", "ok"),
                                (f"program -{'9' * 60} n", "error InvalidNumber"),
                                ("program " + "9" * 60 + " n", "none")]:
            self.assertTrue(same(one.run(command), answer), command)
        many = Shell(wide(11))
        for command in ["builds q", "shortest q", "count q", "use s q"]:
            self.assertEqual(many.run(command), "error TooMany")
        self.assertEqual(Shell(wide(11).with_part("z", Type.plain("q"))).run("surplus"), "error TooMany")
        self.assertEqual(Shell(FORTY).run_all("shortest e", "builds e", "program 0 e", "use z e"),
                         ("error TooMany", "yes", "none", "every"))
        self.assertEqual(Shell(DEEP).run("shortest " + DEEP_GOAL.text), "error InvalidProgram")

    def test_an_error_changes_nothing(self):
        one = Shell(NAT)
        for command in ["drop q", "part S : n", "part s : N", "part s n", "drop", "drop s z", "parts s : n",
                        "part s : n :"]:
            self.assertTrue(one.run(command).startswith("error "))
            self.assertTrue(one.library == NAT)


class Parsing(Case):
    def test_what_is_no_command(self):
        wrong = ["", " ", "\n", "Library", "library ", " library", "library z", "library\n", "surplus ", "surplus s",
                 "quit", "builds", "builds ", "builds  n", "builds N", "builds n n", "builds n ", "builds (n)",
                 "build n",
                 "shortest", "shortest n -> (n)", "shortest ", "count", "count ", "count 1", "count n;", "program",
                 "program 1", "program n", "program n 1", "program 01 n", "program +1 n", "program 1.0 n",
                 "program -0 n",
                 "program 00 n", "program - n", "program --1 n", "program  n", "program 1  n", "program  1 n",
                 "program 1 2 n", "program True n", "program None n", "program " + "9" * 61 + " n",
                 "program -" + "9" * 61 + " n", "program 1 N", "program 1 ", "rank", "rank z", "rank z n", "rank z :n",
                 "rank z: n", "rank  : n", "rank : n", "rank (z) : n", "rank Z : n", "rank s  z : n", "rank z : N",
                 "rank z : ", "rank z :", "rank z : n : n", "rank ? : n", "rank \\x1. z : n", "use", "use s", "use s ",
                 "use  n", "use s  n", "use s N", "use s z n", "use s : n", "kind", "kind z", "kind z n", "kind : n",
                 "kind  : n", "kind z : N", "kind z : ", "kind z :n", "kind z : n : n", "part", "part f", "part f n",
                 "part f:n", "part f :n", "part f: n", "part : n", "part  : n", "part f : ", "part f : N",
                 "part f g : n",
                 "part f : n : n", "part  f : n", "part f  : n", "drop", "drop ", "drop  s", "drop s ", "drop s z",
                 "library : n", "surplus n", "error ParseError", "ok", "none", "builds\nn", "drop\ns", "use\ts n",
                 "PART f : n", "builds a -> ", "builds " + "(" * 8000, "rank " + "s (" * 2900 + " : n", "part f : n\n"]
        one = Shell(NAT)
        for command in wrong:
            self.assertEqual(one.run(command), "error ParseError", command)
            self.assertTrue(one.library == NAT)
        self.assertEqual(one.answers, tuple((command, "error ParseError") for command in wrong))

    def test_texts_of_no_program_are_no_kind(self):
        one = Shell(NAT)
        for text in ["Z", "(z)", "s  z", " z", "z ", "x0", "?", "s (z", "\\x1. z", " ", "1",
                     "s (" * 40 + "z" + ")" * 40,
                     "\\", "s:z", "s,z", "z\n", "(" * 8000, "q", "s", "s s", "\\x0. z", "s z z"]:
            self.assertEqual(one.run(f"kind {text} : n"), "no", text)
        self.assertEqual(one.run_all("kind z : n", "kind s (s z) : n", "kind \\x0. s x0 : n -> n", "kind z : m"),
                         ("yes", "yes", "yes", "no"))

    def test_values_of_every_sort_as_commands(self):
        one = Shell(NAT)
        for value in all_values():
            if isinstance(value, str):
                self.assertEqual(one.run(value), "error ParseError")

    def test_commands_near_good_ones(self):
        """One character less, more or other: an answer, and an equal library where it is an error."""
        rand = random.Random(192)
        good = ["library", "builds n", "shortest n -> n", "count n", "program 2 n", "rank s z : n", "use s n",
                "surplus",
                "kind s z : n", "part f : n -> m", "drop s"]
        for command in good:
            for _ in range(150):
                at, sign = rand.randrange(len(command) + 1), rand.choice("ns :(->)0129\\x.")
                for text in [command[:at] + command[at + 1:], command[:at] + sign + command[at:],
                             command[:at] + sign + command[at + 1:]]:
                    one = Shell(NAT)
                    answer = one.run(text)
                    self.assertIsInstance(answer, str)
                    self.assertTrue(same(one.answers, ((text, answer),)))
                    if answer != "ok":
                        self.assertTrue(one.library == NAT)
                    else:
                        self.assertIn(text.split(" ")[0], ("part", "drop"))


class Sessions(Case):
    def test_a_session(self):
        one = Shell(Library())
        session = [("library", "none"), ("builds n", "no"), ("part z : n", "ok"), ("builds n", "yes"), ("count n", "1"),
                   ("part s : n -> n", "ok"), ("count n", "endless"), ("shortest n -> n", "\\x0. z"),
                   ("program 0 n -> n", "\\x0. x0"), ("program 3 n", "s (s (s z))"), ("rank s (s z) : n", "2"),
                   ("use z n", "every"), ("use z n -> n", "some"), ("surplus", "s"), ("drop z", "ok"), ("surplus", "s"),
                   ("use s n", "none built"), ("count n -> n", "endless"), ("kind \\x0. s (s x0) : n -> n", "yes"),
                   ("kind \\x0. z : n -> n", "no"), ("program 5 n", "none"), ("drop z", "error UnknownWord"),
                   ("drop s", "ok"), ("library", "none"), ("part p", "error ParseError")]
        for at, (command, answer) in enumerate(session):
            self.assertEqual(one.run(command), answer, command)
            self.assertTrue(same(one.answers, tuple(session[:at + 1])))
        other = Shell(Library())
        self.assertTrue(same(other.run_all(*[command for command, _ in session]),
                             tuple(answer for _, answer in session)))
        self.assertEqual(other.run_all(), ())

    def test_shells_do_not_share_anything(self):
        one, other = Shell(NAT), Shell(NAT)
        one.run("drop z")
        self.assertEqual([other.library.names, other.answers, NAT.names], [("s", "z"), (), ("s", "z")])
        kept = one.answers
        one.run("library")
        self.assertEqual([kept, len(one.answers)], [(("drop z", "ok"),), 2])


if __name__ == "__main__":
    unittest.main()
