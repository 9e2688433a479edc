import random
import unittest

from fromparts.ask.questions import Questions, is_question
from fromparts.base.libraries import Library
from fromparts.base.programs import Program
from fromparts.base.types import Type
from fromparts.errors import InvalidLibrary, InvalidOperation, InvalidQuestion, InvalidRoom, ParseError
from fromparts.put.order import translation
from fromparts.put.putting import own_puts
from fromparts.room.rooms import Room, refusal, scope_room
from fromparts.text import texts
from fromparts.text.texts import (read_library, read_puts, read_question, read_ranks, read_room, write_library,
                                  write_puts, write_question, write_ranks, write_room)
from cases import CONT, NAT, PIPE, Case, others, random_goals, sample_goals
from plain import is_built
from search import programs_upto
from values import all_values, same

N = Type.plain("n")
SCOPE = ("n", "n -> n")
WIDE = tuple(sorted(first + second for first in "abcdefghijkl" for second in "abcdefghijkl"))[:140]


def goals():
    return sample_goals() + random_goals(181, 40) + random_goals(182, 20, parts=5, places=6)


def some_questions():
    found = [((), "n"), (SCOPE, "n"), (WIDE, "a"), (("(a -> b) -> c", "a", "b"), "b"), ((), "abcdefgh")]
    for library, goal in goals()[:50]:
        found.extend(Questions(library, goal).asks[:6])
    return found


def some_rooms():
    found = [Room(((0,),), ((),)), Room(((0, 1), (1,)), ((), ("a",))), Room(((0,), (1,)), (("a", "b"), ("abcdefgh",))),
             Room(tuple([tuple(range(at, 60)) for at in range(60)]), ((),) * 59 + (("z",),))]
    for library, goal in goals():
        if not is_built(library, goal):
            found.append(refusal(library, goal))
    return found + [scope_room(CONT, Type.plain("c"))]


def changed_texts(text, rand, many):
    """Texts near another one: a character less, more or other, lines lost, doubled or exchanged."""
    found = []
    signs = "ab(->)|;:=. \n0129-nx\\"
    for _ in range(many):
        at = rand.randrange(len(text) + 1)
        sign = rand.choice(signs)
        found += [text[:at] + text[at + 1:], text[:at] + sign + text[at:], text[:at] + sign + text[at + 1:]]
    lines = text.split("\n")
    for at in range(min(len(lines), 4)):
        found += ["\n".join(lines[:at] + lines[at + 1:]), "\n".join(lines[:at + 1] + lines[at:])]
        found += ["\n".join(lines[:at] + lines[at:][::-1]), "\n".join(lines[:at] + [" " + lines[at]] + lines[at + 1:])]
        found += ["\n".join(lines[:at] + [lines[at] + " "] + lines[at + 1:]), "\n".join(lines[:at] + [""] + lines[at:])]
    return found + [text + "\n", "\n" + text, text + " ", " " + text, text * 2, text.upper()]


class Interface(Case):
    def test_names_and_parameters(self):
        for call, parameters in [(write_question, ["question"]), (read_question, ["text"]), (write_ranks, ["ranks"]),
                                 (read_ranks, ["text"]), (write_room, ["room"]), (read_room, ["text"]),
                                 (write_puts, ["puts"]), (read_puts, ["text"]), (write_library, ["library"]),
                                 (read_library, ["text"])]:
            self.assertEqual(call.__module__, "fromparts.text.texts")
            self.assertIs(getattr(texts, call.__name__), call)
            self.assertEqual(self.parameters(call), parameters)

    def test_examples(self):
        self.assertTrue(same([write_question((("n", "n -> n"), "n")), read_question("|- n"),
                              write_room(Room(((0, 1), (1,)), ((), ("a",)))).split("\n"),
                              read_puts("h = \\x0. g (f x0)")["h"].size],
                             ["n; n -> n |- n", ((), "n"), ["0 1:", "1: a"], 3]))
        self.assertEqual(write_ranks({(SCOPE, "n"): 2}), "2 n; n -> n |- n")
        self.assertEqual(write_room(Room(((0, 1), (1,)), (("a",), ("a", "b")))).split("\n")[0], "0 1: a")


class Written(Case):
    def test_questions(self):
        for question in some_questions():
            text = write_question(question)
            due = "; ".join(question[0]) + (" |- " if question[0] else "|- ") + question[1]
            self.assertTrue(same([text, read_question(text)], [due, question]))

    def test_ranks(self):
        several = [{}, {(SCOPE, "n"): 1}, {((), "n"): 10 ** 60 - 1, (SCOPE, "n"): 10}]
        several += [Questions(library, goal).ranks for library, goal in goals()]
        for ranks in several:
            text = write_ranks(dict(reversed(list(ranks.items()))))
            due = "\n".join(f"{ranks[question]} {write_question(question)}" for question in sorted(ranks)) or "none"
            self.assertTrue(same([text, read_ranks(text)], [due,
                                                            {question: ranks[question] for question in sorted(ranks)}]))

    def test_rooms(self):
        for room in some_rooms():
            text = write_room(room)
            rows = [" ".join(str(world) for world in above) + ":" + "".join(" " + word for word in true)
                    for above, true in zip(room.reach, room.truths)]
            self.assertEqual(text, "\n".join(rows))
            self.assertTrue(read_room(text) == room)

    def test_puts(self):
        several = [{}, own_puts(NAT), translation(PIPE, Library.read("h : a -> c")), {"none": Program.read("none")}]
        several += [own_puts(library) for library, _ in goals()]
        for library, goal in goals():
            found = programs_upto(library, goal, 4)[:10]
            several.append({"abcdefghij"[at] * 2: Program(nodes) for at, nodes in enumerate(found)})
        for puts in several:
            text = write_puts(dict(reversed(list(puts.items()))))
            self.assertEqual(text, "\n".join(f"{name} = {puts[name].text}" for name in sorted(puts)) or "none")
            found = read_puts(text)
            self.assertEqual([(name, one.nodes) for name, one in found.items()],
                             [(name, puts[name].nodes) for name in sorted(puts)])

    def test_libraries(self):
        eight = Library({name: N for name in "abcdefgh"})
        for library in [Library(), NAT, PIPE, eight, Library.read("f : a", "fa : a", "none : a")] + [
                library for library, _ in goals()]:
            text = write_library(library)
            self.assertEqual(text, "\n".join(library.lines) or "none")
            self.assertTrue(read_library(text) == library)


class Refused(Case):
    def test_values_that_are_not_written(self):
        for value in all_values() + [(("b", "a"), "a"), (SCOPE, "N"), SCOPE, [SCOPE, "n"], (SCOPE, "n", 1)]:
            if not is_question(value):
                self.refused(InvalidQuestion, write_question, value)
        question = (SCOPE, "n")
        for value in [value for value in all_values() if value != {}] + [
                {question: 0}, {question: -1}, {question: True}, {question: None}, {question: 10 ** 60},
                {question: "1"},
                {"n": 1}, {(("b", "a"), "a"): 1}, {question: 1, 1: 1}, [(question, 1)], {question: [1]}]:
            self.refused(InvalidOperation, write_ranks, value)
        for value in others(Room) + [((0,),), (((0,),), ((),))]:
            self.refused(InvalidRoom, write_room, value)
        one = Program.read("z")
        for value in [value for value in all_values() if value != {}] + [
                {"Z": one}, {"z": "z"}, {"z": ((0, "z", 0),)}, {"z": None}, {1: one}, {("z",): one},
                {"z": one, "x0": one},
                [("z", one)], {"z": one, "y": [one]}, {None: one}]:
            self.refused(InvalidOperation, write_puts, value)
        for value in others(Library) + [{"z": N}]:
            self.refused(InvalidLibrary, write_library, value)

    def test_texts_that_are_no_strings(self):
        for call in [read_question, read_ranks, read_room, read_puts, read_library]:
            for value in others(str) + [["|- n"], ("|- n",), b"|- n"]:
                self.assertIs(self.refused(ParseError, call, value).line, None)

    def test_questions(self):
        for text in ["", "n", "|- ", "|-n", " |- n", "|- n ", "n |-n", "n|- n", "n |- ", "n; |- n", "; n |- n",
                     "n;n -> n |- n", "n -> n; n |- n", "n; n |- n", "n, m |- n", "(n) |- n", "n |- n -> n", "n |- N",
                     "n |- m |- n", "none", "n; n -> n |-  n", "n; n -> n  |- n", "n\n|- n", "|- n\n", "n ; m |- n",
                     "; ".join(WIDE + ("zz",)) + " |- n", "a -> (b) |- n", "|- n; m", "- n", "|", "|- |- n"]:
            self.assertIs(self.refused(ParseError, read_question, text).line, None)

    def test_lines_of_ranks(self):
        good = "1 n |- n"
        for text, at in [("", 0), ("\n", 0), (good + "\n", 1), ("\n" + good, 0), (good + "\n" + good, 1),
                         ("none\n" + good, 0),
                         (good + "\nnone", 1), ("0 n |- n", 0), ("-1 n |- n", 0), ("01 n |- n", 0), ("1  n |- n", 0),
                         (" 1 n |- n", 0), ("1 n |- n ", 0), ("1n |- n", 0), ("n |- n", 0), ("+1 n |- n", 0), ("1 ", 0),
                         ("1", 0), ("1\tn |- n", 0), ("True n |- n", 0), ("9" * 61 + " n |- n", 0), ("1.0 n |- n", 0),
                         ("1 n |- n\n2 m |- n", 1), ("1 m |- n\n2 n |- n\n3 n |- m", 2), ("1 n |- n\n2 |- n", 1),
                         ("1 |- n\n1 n |- n\nx", 2), ("none ", 0), ("None", 0), ("1 m |- n\n1 n |- n\n0 p |- n", 2)]:
            self.assertTrue(same(self.refused(ParseError, read_ranks, text).line, at), text)
        self.assertTrue(same(read_ranks("9" * 60 + " |- n\n1 n |- m\n1 n |- n"),
                             {((), "n"): 10 ** 60 - 1, (("n",), "m"): 1, (("n",), "n"): 1}))

    def test_lines_of_rooms(self):
        for text, at in [("", 0), ("none", 0), ("0", 0), ("0: ", 0), ("0 :", 0), (" 0:", 0), ("0:a", 0), ("0:  a", 0),
                         ("0: a ", 0), ("0: a  b", 0), (":", 0), (": a", 0), ("0: A", 0), ("0: a1", 0), ("00:", 0),
                         ("0,1:", 0), ("0  1:", 0), ("-1:", 0), ("x:", 0), ("0:\n", 1), ("0:\n\n2:", 1), ("0::", 0),
                         ("0: a: b", 0), ("0: abcdefghi", 0), ("0 1: a\n1: a\n2", 2), ("0\t1:", 0), ("0: a, b", 0),
                         ("9" * 61 + ":", 0), ("0:\n1", 1), ("None:", 0), ("0:\n0 None: a", 1)]:
            self.assertTrue(same(self.refused(ParseError, read_room, text).line, at), text)

    def test_lines_that_make_no_room(self):
        for text in ["1:", "0 1:", "0:\n0:", "0 1:\n0 1:", "0 1: a\n1:", "1 0:\n1:", "0: b a", "0: a a", "0 0:",
                     "0 2:\n1:",
                     "0 1:\n1 2:\n2:", "5:", "9" * 60 + ":", "\n".join([f"{at}:" for at in range(61)])]:
            self.refused(InvalidRoom, read_room, text)
        self.assertEqual(len(read_room("\n".join([f"{at}:" for at in range(60)]))), 60)
        # A line that is none is told ahead of that.
        self.assertEqual(self.refused(ParseError, read_room, "1:\n0 :").line, 1)

    def test_lines_of_puts(self):
        for text, at in [("", 0), ("h", 0), ("h = ", 0), ("h =", 0), (" = z", 0), ("h  = z", 0), ("h =  z", 0),
                         ("h= z", 0),
                         ("h =z", 0), ("H = z", 0), ("x0 = z", 0), ("h = Z", 0), ("h = x0", 0), ("h = (z)", 0),
                         ("h = z\nh = z", 1), ("k = z\nh = z", 1), ("h = z\n", 1), ("\nh = z", 0), ("none\nh = z", 0),
                         ("h = z\nnone", 1), ("h = z = z", 0), ("h : z", 0), ("h = \\x1. z", 0), ("None", 0),
                         ("h = z\nk = s\np = (", 2), ("h = ?", 0), ("abcdefghi = z", 0), ("h = z\nk = z\nj = z\nq", 2),
                         ("h = " + "s (" * 40 + "z" + ")" * 40, 0)]:
            self.assertTrue(same(self.refused(ParseError, read_puts, text).line, at), text)

    def test_lines_of_libraries(self):
        for text, at in [("", 0), ("f", 0), ("f : ", 0), ("f :a", 0), ("f: a", 0), (" f : a", 0), ("f : a ", 0),
                         ("F : a", 0),
                         ("f : A", 0), ("f : (a)", 0), ("f : a\nf : a", 1), ("g : a\nf : a", 1), ("f : a\n", 1),
                         ("none\nf : a", 0), ("f : a\nnone", 1), ("f : a : b", 0), ("f = a", 0), ("x0 : a", 0),
                         ("None", 0),
                         ("f : a\ng : a\nfa : a", 2), ("fa : a\nf : a", 1), ("f : a\n\ng : a", 1)]:
            self.assertTrue(same(self.refused(ParseError, read_library, text).line, at), text)
        nine = "\n".join([f"{name} : a" for name in "abcdefghi"])
        self.refused(InvalidLibrary, read_library, nine)
        self.assertEqual(self.refused(ParseError, read_library, nine + "\nh : a").line, 9)
        self.assertEqual(self.refused(ParseError, read_library, nine + "\n" + nine).line, 9)

    def test_near_texts(self):
        """A text that is read is just the text of what comes of it."""
        rand = random.Random(183)
        read, lost = {}, {}
        for write, call, values in [
                (write_question, read_question, rand.sample(some_questions(), 30)),
                (write_ranks, read_ranks, [Questions(library, goal).ranks for library, goal in goals()[:25]]),
                (write_room, read_room, some_rooms()[:25]),
                (write_puts, read_puts, [own_puts(library) for library, _ in goals()[:25]]),
                (write_library, read_library, [library for library, _ in goals()[:25]])]:
            for value in values:
                for text in changed_texts(write(value), rand, 25):
                    try:
                        found = call(text)
                    except (ParseError, InvalidRoom):
                        lost[call.__name__] = lost.get(call.__name__, 0) + 1
                    else:
                        self.assertEqual(write(found), text)
                        read[call.__name__] = read.get(call.__name__, 0) + 1
        self.assertEqual([len(read), len(lost)], [5, 5])
        self.assertGreater(min(list(read.values()) + list(lost.values())), 20)

    def test_long_texts(self):
        for call in [read_question, read_ranks, read_room, read_puts, read_library]:
            for text in ["a" * 9000, "\n" * 9000, " " * 9000, "1 " * 4500, "0:" * 4500, "(" * 9000, "h = " + "(" * 8000,
                         "|- " * 3000, "n; " * 2900 + "|- n", "1:\n" * 3000, "9" * 9000, "9" * 9000 + ":"]:
                with self.assertRaises((ParseError, InvalidRoom)):
                    call(text)


class Unchanged(Case):
    def test_nothing_is_changed(self):
        ranks = {(SCOPE, "n"): 2, ((), "n"): 1}
        write_ranks(ranks)
        self.assertEqual(list(ranks.items()), [((SCOPE, "n"), 2), (((), "n"), 1)])
        puts = {"z": Program.read("z"), "h": Program.read("y")}
        write_puts(puts)
        self.assertEqual(list(puts), ["z", "h"])
        found = read_ranks("1 |- n")
        found.clear()
        self.assertEqual(read_ranks("1 |- n"), {((), "n"): 1})


if __name__ == "__main__":
    unittest.main()
