import copy
import random
import unittest

from fromparts.base import libraries
from fromparts.base.libraries import MAX_PARTS, Library, fresh_names
from fromparts.base.types import Type
from fromparts.errors import (InvalidLibrary, InvalidNumber, InvalidOperation, InvalidType, InvalidWord, ParseError,
                              UnknownWord)
from cases import CONT, NAT, PIPE, Case, not_sizes, not_words, others, some_library
from values import all_values, same

A = Type.plain("a")
EIGHT = {name: Type.plain("a") for name in "abcdefgh"}


def samples():
    rand = random.Random(3)
    return [Library(), NAT, PIPE, CONT, Library(EIGHT)] + [some_library(rand, many % 9, 5, 3, "abc")
                                                           for many in range(40)]


def pairs(library):
    """The parts with the texts of their types, told from the lines."""
    return [tuple(line.split(" : ")) for line in library.lines]


class Interface(Case):
    def test_constant(self):
        self.assertTrue(same(MAX_PARTS, 8))

    def test_names_and_parameters(self):
        self.assertEqual([Library.__module__, fresh_names.__module__], ["fromparts.base.libraries"] * 2)
        self.assertEqual(self.parameters(Library), ["parts"])
        self.assertEqual(self.parameters(libraries.fresh_names), ["library", "count"])
        for name, parameters in [("with_part", ["name", "wanted"]), ("renamed", ["names"]), ("with_atoms", ["names"]),
                                 ("heads", ["atom"]), ("is_part_of", ["other"])]:
            self.assertEqual(self.parameters(getattr(NAT, name)), parameters)

    def test_methods_stand_in_the_class_itself(self):
        for name in ["read", "parts", "names", "lines", "atoms", "scope", "order", "with_part", "without", "only",
                     "renamed", "with_atoms", "heads", "__or__", "__and__", "__sub__", "__getitem__", "__contains__",
                     "__len__", "__iter__", "__eq__", "is_part_of", "__str__"]:
            self.assertIn(name, vars(Library))

    def test_first_example(self):
        told = [str(PIPE), PIPE.scope, PIPE.heads("c"), PIPE.without("g").names, (PIPE | NAT).names,
                PIPE.with_atoms({"a": "n", "b": "n", "c": "m"}).lines,
                fresh_names(PIPE.with_part("za", Type.plain("a")), 2)]
        self.assertTrue(same(told, ["2 parts, 3 atoms", ("a -> b", "b -> c"), ("g",), ("f",), ("f", "g", "s", "z"),
                                    ("f : n -> n", "g : n -> m"), ("zb", "zc")]))

    def test_second_example(self):
        told = [CONT["k"].text, CONT.order, Library.read("z : n", "s : n -> n") == NAT,
                PIPE - PIPE.without("f") == PIPE.only("f"), PIPE.only("g").is_part_of(PIPE)]
        self.assertTrue(same(told, ["(a -> b) -> c", 2, True, True, True]))


class Making(Case):
    def test_none_and_nothing_are_empty(self):
        for one in [Library(), Library(None), Library({}), Library(parts=None), Library.read()]:
            self.assertTrue(same([one.parts, one.names, one.lines, one.atoms, one.scope, one.order, len(one)],
                                 [{}, (), (), (), (), 0, 0]))

    def test_eight_parts_and_nine(self):
        self.assertEqual(Library(EIGHT).names, tuple("abcdefgh"))
        self.refused(InvalidLibrary, Library, {**EIGHT, "i": A})

    def test_what_are_no_parts(self):
        wrong = [value for value in all_values() if value is not None and value != {}]
        wrong += [{"A": A}, {"": A}, {"x0": A}, {1: A}, {True: A}, {None: A}, {("a",): A}, {"a": "a"}, {"a": None},
                  {"a": A, "b": "b"}, [("a", A)], (("a", A),), {"a": A, "abcdefghi": A}, {"a": [A]}, {"a": NAT}]
        for value in wrong:
            self.refused(InvalidLibrary, Library, value)

    def test_the_order_of_the_dict_has_no_effect(self):
        one = Library({"b": A, "a": Type.read("a -> b"), "c": A})
        other = Library({"c": A, "a": Type.read("a -> b"), "b": A})
        self.assertEqual([one.lines, list(one.parts)], [other.lines, ["a", "b", "c"]])
        self.assertTrue(one == other)

    def test_read(self):
        self.assertEqual(Library.read("z : n", "f : (a -> b) -> c", "s : n -> n").lines,
                         ("f : (a -> b) -> c", "s : n -> n", "z : n"))
        for library in samples():
            self.assertEqual(Library.read(*library.lines[::-1]), library)

    def test_read_refuses_the_first_line_that_is_none(self):
        wrong = ["", " : ", "a", "a :n", "a: n", "a  : n", "a : ", " a : n", "a : n ", "A : n", "x0 : n", "a : (n)",
                 "a : n -> (n)", "a : n : n", "abcdefghi : n", "a : n\n", "a : b ->c", "\na : n", "a : " + "n" * 9]
        for line in wrong + others(str):
            for at in range(3):
                lines = ["p : n", "q : n -> n", "r : n"]
                lines[at] = line
                error = self.refused(ParseError, Library.read, *lines)
                self.assertTrue(same(error.line, at))
        self.assertEqual(self.refused(ParseError, Library.read, "p : n", "wrong", None).line, 1)

    def test_read_refuses_a_part_that_is_told_twice(self):
        self.assertEqual(self.refused(ParseError, Library.read, "a : n", "b : n", "a : n").line, 2)
        self.assertEqual(self.refused(ParseError, Library.read, "a : n", "a : m", "wrong").line, 1)
        self.assertEqual(self.refused(ParseError, Library.read, "a : n", "wrong", "a : m").line, 1)

    def test_read_refuses_nine_parts_last(self):
        lines = [f"{name} : n" for name in "abcdefghi"]
        self.refused(InvalidLibrary, Library.read, *lines)
        self.assertEqual(len(Library.read(*lines[:8])), 8)
        self.assertEqual(self.refused(ParseError, Library.read, *lines, "a : n").line, 9)
        self.assertEqual(self.refused(ParseError, Library.read, *lines, "wrong").line, 9)

    def test_read_refuses_types_that_are_too_large(self):
        fifteen = " -> ".join(["a"] * 15)
        self.assertEqual(Library.read("f : " + fifteen)["f"].text, fifteen)
        self.assertEqual(self.refused(ParseError, Library.read, "f : a -> " + fifteen).line, 0)


class Telling(Case):
    def test_properties(self):
        for library in samples():
            told = pairs(library)
            kinds = [Type.read(text) for _, text in told]
            self.assertEqual(told, sorted(told))
            self.assertTrue(same(library.names, tuple(name for name, _ in told)))
            self.assertTrue(same([(name, one.text) for name, one in library.parts.items()], told))
            self.assertTrue(same(library.scope, tuple(sorted({text for _, text in told}))))
            self.assertTrue(same(library.atoms, tuple(sorted({word for one in kinds for word in one.atoms}))))
            self.assertTrue(same(library.order, max([one.order for one in kinds] + [0])))
            self.assertTrue(same(len(library), len(told)))
            self.assertEqual(list(library), [name for name, _ in told])
            self.assertEqual(str(library), f"{len(told)} parts, {len(library.atoms)} atoms")
            for word in "abcdz":
                self.assertTrue(same(library.heads(word), tuple(name for name, text in told
                                                                if text.split(" -> ")[-1] == word)))

    def test_scope_has_each_text_once(self):
        self.assertEqual(Library(EIGHT).scope, ("a",))

    def test_items(self):
        for library in samples():
            for name, text in pairs(library):
                self.assertEqual(library[name].text, text)
                self.assertIs(name in library, True)
        for value in others(str) + ["", "k", "n", "S", "s : n -> n", "ss"]:
            self.assertTrue(same(self.refused(UnknownWord, lambda: NAT[value]).asked, value))
            self.assertIs(value in NAT, False)

    def test_heads_refuses_what_is_no_word(self):
        for value in not_words():
            self.refused(InvalidWord, NAT.heads, value)

    def test_equality(self):
        every = samples()
        for one in every:
            for other in every:
                self.assertIs(one == other, one.lines == other.lines)
                self.assertIs(one != other, one.lines != other.lines)
            for value in all_values():
                if not isinstance(value, Library):
                    self.assertIs(one == value, False)
                    self.assertIs(one != value, True)
        self.assertIs(Library.read("a : n") == Library.read("a : m"), False)
        self.assertIs(Library.read("a : n") == Library.read("b : n"), False)


class Changing(Case):
    def test_with_part(self):
        self.assertEqual(NAT.with_part("a", A).lines, ("a : a", "s : n -> n", "z : n"))
        self.assertEqual(NAT.with_part("z", A).lines, ("s : n -> n", "z : a"))
        self.assertEqual(NAT.with_part(name="z", wanted=Type.plain("n")), NAT)
        self.assertEqual(NAT.lines, ("s : n -> n", "z : n"))

    def test_with_part_refuses(self):
        full = Library(EIGHT)
        for name in not_words():
            for wanted in [A, None, "a"]:
                self.refused(InvalidWord, full.with_part, name, wanted)
        for wanted in others(Type):
            self.refused(InvalidType, full.with_part, "i", wanted)
        self.refused(InvalidLibrary, full.with_part, "i", A)
        self.assertEqual(full.with_part("h", Type.plain("b"))["h"].text, "b")

    def test_without_and_only(self):
        for library in samples():
            for count in range(1 << len(library)):
                names = [name for at, name in enumerate(library) if count >> at & 1]
                left = library.without(*names[::-1])
                kept = library.only(*names[::-1])
                self.assertEqual([left.lines, kept.lines],
                                 [tuple(line for line in library.lines if line.split()[0] not in names),
                                  tuple(line for line in library.lines if line.split()[0] in names)])
                if count > 40:
                    break
        self.assertEqual([NAT.without("z", "z").names, NAT.only("z", "z").names], [("s",), ("z",)])

    def test_without_and_only_tell_the_first_name_that_is_no_part(self):
        for value in others(str) + ["", "a", "Z"]:
            for call in [NAT.without, NAT.only]:
                for names in [(value,), ("z", value, "q"), (value, "q"), ("s", value)]:
                    self.assertTrue(same(self.refused(UnknownWord, call, *names).asked, value))

    def test_renamed(self):
        self.assertEqual(NAT.renamed({"z": "s", "s": "z"}).lines, ("s : n", "z : n -> n"))
        self.assertEqual(NAT.renamed(names={"s": "b", "z": "a"}).lines, ("a : n", "b : n -> n"))
        self.assertEqual(Library().renamed({}), Library())

    def test_renamed_refuses(self):
        wrong = all_values() + [{"s": "a"}, {"s": "a", "z": "a"}, {"s": "a", "z": "B"}, {"s": "a", "z": None},
                                {"s": "a", "z": "b", "q": "c"}, {"s": "a", "q": "b"}, {"s": "a", 1: "b"},
                                {"s": "a", "z": ["b"]}, [("s", "a"), ("z", "b")], {}, {"s": "x0", "z": "b"}]
        for names in wrong:
            self.refused(InvalidOperation, NAT.renamed, names)

    def test_with_atoms(self):
        self.assertEqual(CONT.with_atoms({"a": "b", "b": "a", "c": "a"}).lines, ("k : (b -> a) -> a", "x : a"))
        self.assertEqual(NAT.with_atoms(names={"n": "abcdefgh"}).lines, ("s : abcdefgh -> abcdefgh", "z : abcdefgh"))
        self.assertEqual(Library().with_atoms({}), Library())

    def test_with_atoms_refuses(self):
        wrong = all_values() + [{"a": "b", "b": "b"}, {"a": "b", "b": "b", "c": "C"}, {"a": "b", "b": "b", "d": "a"},
                                {"a": "b", "b": "b", "c": "a", "d": "a"}, {"a": "b", "b": "b", "c": 1}, {}]
        for names in wrong:
            self.refused(InvalidOperation, PIPE.with_atoms, names)

    def test_fresh_names(self):
        words = ["z" + letter for letter in "abcdefghijklmnopqrstuvwxyz"]
        self.assertTrue(same(fresh_names(NAT, 8), tuple(words[:8])))
        self.assertTrue(same(fresh_names(library=NAT, count=0), ()))
        full = Library({word: A for word in ["za", "zc", "ze", "zg", "zi", "zk", "zm", "zz"]})
        self.assertEqual(fresh_names(full, 8), ("zb", "zd", "zf", "zh", "zj", "zl", "zn", "zo"))
        self.assertEqual(fresh_names(Library.read("z : a", "a : a"), 1), ("za",))

    def test_fresh_names_refuses(self):
        for value in others(Library):
            for count in [1, None, 9]:
                self.refused(InvalidLibrary, fresh_names, value, count)
        for value in not_sizes(8):
            self.assertTrue(same(self.refused(InvalidNumber, fresh_names, NAT, value).number, value))


class Both(Case):
    def test_union(self):
        for one in samples():
            for other in samples():
                mine, theirs = dict(pairs(one)), dict(pairs(other))
                if any(name in mine and mine[name] != theirs[name] for name in theirs):
                    self.refused(InvalidOperation, lambda: one | other)
                elif len({**mine, **theirs}) > 8:
                    self.refused(InvalidLibrary, lambda: one | other)
                else:
                    self.assertEqual(pairs(one | other), sorted({**mine, **theirs}.items()))

    def test_two_types_are_told_ahead_of_too_many_parts(self):
        self.refused(InvalidOperation, lambda: Library(EIGHT) | Library.read("a : b", "i : a"))
        self.refused(InvalidLibrary, lambda: Library(EIGHT) | Library.read("a : a", "i : a"))

    def test_common_parts_and_others(self):
        for one in samples():
            for other in samples():
                self.assertEqual((one & other).lines, tuple(line for line in one.lines if line in other.lines))
                self.assertEqual((one - other).lines, tuple(line for line in one.lines if line not in other.lines))
                self.assertIs(one.is_part_of(other), set(one.lines) <= set(other.lines))

    def test_a_part_with_another_type_is_not_common(self):
        one, other = Library.read("a : n", "b : n"), Library.read("a : m", "b : n")
        self.assertEqual([(one & other).names, (one - other).names, one.is_part_of(other)], [("b",), ("a",), False])

    def test_other_operands(self):
        for value in others(Library):
            for call in [lambda: NAT | value, lambda: NAT & value, lambda: NAT - value, lambda: NAT.is_part_of(value),
                         lambda: value | NAT, lambda: value & NAT, lambda: value - NAT]:
                self.refused(InvalidOperation, call)


class Unchanged(Case):
    def test_what_is_handed_in_can_be_changed(self):
        parts = {"a": A, "b": A}
        library = Library(parts)
        parts["c"] = A
        del parts["a"]
        self.assertEqual(library.names, ("a", "b"))
        self.assertEqual(list(library.parts), ["a", "b"])

    def test_what_is_handed_out_can_be_changed(self):
        library = Library({"a": A})
        library.parts["b"] = A
        del library.parts["a"]
        library.parts.clear()
        self.assertEqual([library.names, list(library.parts), "b" in library], [("a",), ["a"], False])

    def test_arguments_stay(self):
        names, atoms = {"z": "b", "s": "a"}, {"n": "m"}
        kept = copy.deepcopy((names, atoms))
        parts = {"z": A, "a": A}
        Library(parts)
        NAT.renamed(names)
        NAT.with_atoms(atoms)
        NAT.with_part("q", A)
        NAT | PIPE, NAT & PIPE, NAT - PIPE
        self.assertTrue(same((names, atoms), kept))
        self.assertEqual(list(parts), ["z", "a"])
        self.assertEqual([NAT.lines, PIPE.lines], [("s : n -> n", "z : n"), ("f : a -> b", "g : b -> c")])


if __name__ == "__main__":
    unittest.main()
