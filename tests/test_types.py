import inspect
import itertools
import unittest

from fromparts import errors
from fromparts.base import types
from fromparts.base.types import MAX_ORDER, MAX_PLACES, Type
from fromparts.errors import InvalidNumber, InvalidOperation, InvalidType, InvalidWord
from cases import Case, not_words
from trees import (FIFTEEN, ORDER_FOUR, SAMPLE, atoms_with, built, is_small, order_of, parts_of, places_of,
                   small_trees, text_of, trees, with_names, with_put)
from values import all_values, same, shown

def deep_tree(order):
    tree = ((), "a")
    for _ in range(order):
        tree = ((tree,), "a")
    return tree


def not_types():
    return [value for value in all_values() if not isinstance(value, Type)]


def not_counts():
    """Values that are no integers from 0 to 14, and so of no argument."""
    return [value for value in all_values() if value.__class__ is not int or not 0 <= value <= 14]


class Interface(Case):
    def test_constants(self):
        self.assertTrue(same((MAX_PLACES, MAX_ORDER), (15, 4)))

    def test_names_and_parameters(self):
        self.assertEqual(Type.__module__, "fromparts.base.types")
        self.assertIs(types.Type, Type)
        self.assertEqual(list(inspect.signature(Type).parameters), ["inputs", "atom"])
        for name, parameters in [("read", ["text"]), ("plain", ["atom"]), ("renamed", ["names"]),
                                 ("put", ["atom", "other"])]:
            self.assertEqual(list(inspect.signature(getattr(Type.plain("a"), name)).parameters), parameters)

    def test_methods_stand_in_the_class_itself(self):
        for name in ["read", "plain", "inputs", "atom", "text", "order", "atoms", "parts", "positive", "negative",
                     "__rshift__", "__mod__", "renamed", "put", "__len__", "__getitem__", "__iter__", "__contains__",
                     "__eq__", "__str__"]:
            self.assertIn(name, vars(Type))

    def test_example_of_properties(self):
        one = Type.read("(a -> b) -> a -> c")
        told = [one.inputs[0].text, one.atom, one.order, len(one), one.atoms, [part.text for part in one.parts],
                one.positive, one.negative]
        self.assertEqual(told, ["a -> b", "c", 2, 4, ("a", "b", "c"), ["(a -> b) -> a -> c", "a", "a -> b"],
                                ("a", "c"), ("a", "b")])

    def test_example_of_operations(self):
        one = Type.read("(a -> b) -> a -> c")
        told = [(Type.plain("d") >> one).text, (one % 1).text, one.renamed({"a": "n", "b": "n", "c": "n"}).text,
                one.put("c", Type.read("d -> e")).text, Type.read("a") in one]
        self.assertEqual(told, ["d -> (a -> b) -> a -> c", "a -> c", "(n -> n) -> n -> n", "(a -> b) -> a -> d -> e",
                                True])


class Making(Case):
    """The constructor and Type.plain, and [0.8]: how large a type can be."""

    def test_keywords(self):
        self.assertEqual(Type(inputs=(Type.plain(atom="a"),), atom="b").text, "a -> b")

    def test_plain(self):
        for word in ["a", "z", "abcdefgh"]:
            one = Type.plain(word)
            self.assertTrue(same([one.inputs, one.atom, one.text, one.order, len(one)], [(), word, word, 0, 1]))

    def test_plain_refuses_what_is_no_word(self):
        for value in not_words():
            self.refused(InvalidWord, Type.plain, value)

    def test_inputs_that_are_no_tuple_of_types(self):
        one = Type.plain("a")
        wrong = [value for value in all_values() if value != ()]
        wrong += [[one], [], {}, {"a": one}, (one, "a"), ("a", one), (one, None), ((one,),), (one, [one]), one]
        for value in wrong:
            self.refused(InvalidType, Type, value, "a")

    def test_atoms_that_are_no_words(self):
        for value in not_words():
            self.refused(InvalidWord, Type, (), value)
            self.refused(InvalidWord, Type, (Type.plain("a"),), value)

    def test_inputs_are_checked_ahead_of_the_atom(self):
        for inputs in [None, [Type.plain("a")], ("a",), 1]:
            for atom in [None, "A", 1, []]:
                self.refused(InvalidType, Type, inputs, atom)

    def test_the_atom_is_checked_ahead_of_the_size(self):
        many = (Type.plain("a"),) * 15
        for inputs in [many, (Type.read(ORDER_FOUR),), (Type.plain("a"),) * 3000]:
            for atom in ["A", "", None, 1, ("a",)]:
                self.refused(InvalidWord, Type, inputs, atom)
            self.refused(InvalidType, Type, inputs, "a")

    def test_fifteen_places_and_sixteen(self):
        plain = Type.plain("a")
        self.assertEqual(len(Type((plain,) * 14, "b")), 15)
        self.refused(InvalidType, Type, (plain,) * 15, "b")
        seven = Type((plain,) * 6, "a")
        self.assertEqual(len(Type((seven, seven), "b")), 15)
        self.refused(InvalidType, Type, (seven, Type((plain,) * 7, "a")), "b")
        self.refused(InvalidType, Type, (seven, plain, seven), "b")
        fifteen = Type((plain,) * 14, "b")
        self.refused(InvalidType, Type, (fifteen,), "b")

    def test_order_four_and_five(self):
        four = built(deep_tree(4))
        self.assertEqual([four.order, len(four)], [4, 5])
        self.refused(InvalidType, Type, (four,), "a")
        self.refused(InvalidType, Type, (Type.plain("a"), four, Type.plain("b")), "a")
        self.assertEqual(Type((built(deep_tree(3)), built(deep_tree(3))), "a").order, 4)

    def test_arguments_of_the_constructor_stay(self):
        inputs = (Type.plain("a"), Type.read("a -> b"))
        one = Type(inputs, "c")
        self.assertIs(one.inputs, inputs)
        self.assertEqual([part.text for part in inputs], ["a", "a -> b"])


class Telling(Case):
    """[2.1], [2.2] and the properties, against the same things told of trees."""

    def check(self, tree):
        one = built(tree)
        text = text_of(tree)
        parts = sorted({text_of(part) for part in parts_of(tree)})
        self.assertTrue(same(one.text, text))
        self.assertTrue(same(str(one), text))
        self.assertTrue(same(one.order, order_of(tree)), text)
        self.assertTrue(same(len(one), len(places_of(tree))), text)
        self.assertTrue(same(one.atom, tree[1]), text)
        self.assertTrue(same(one.atoms, tuple(sorted(set(places_of(tree))))), text)
        self.assertTrue(same([part.text for part in one.inputs], [text_of(part) for part in tree[0]]), text)
        self.assertTrue(same([part.text for part in one.parts], parts), text)
        self.assertTrue(same(one.positive, atoms_with(tree, True)), text)
        self.assertTrue(same(one.negative, atoms_with(tree, False)), text)
        for value in [one.inputs, one.parts]:
            self.assertIs(value.__class__, tuple)
            self.assertTrue(all(isinstance(part, Type) for part in value))

    def test_small_types(self):
        for tree in small_trees():
            self.check(tree)

    def test_large_types(self):
        plain, other = ((), "a"), ((), "longword")
        self.check(((plain,) * 14, "b"))
        self.check(deep_tree(4))
        self.check(((deep_tree(3), other, deep_tree(2), deep_tree(3)), "c"))
        first, second = ((plain, other), "b"), ((other,), "a")
        self.check(((((first, second), "c"), plain, second), "z"))

    def test_places_are_counted_one_by_one(self):
        self.assertEqual([len(Type.read(text)) for text in SAMPLE],
                         [1, 1, 2, 2, 3, 3, 4, 4, 4, 5, 5, 5, 5, 15, 9])

    def test_orders(self):
        self.assertEqual([Type.read(text).order for text in SAMPLE], [0, 0, 1, 1, 1, 2, 2, 2, 3, 2, 3, 3, 4, 1, 4])

    def test_signs(self):
        one = Type.read("(((z -> y) -> x -> z) -> (w -> v) -> u) -> t -> s")
        self.assertEqual([one.positive, one.negative], [("s", "v", "z"), ("t", "u", "w", "x", "y")])
        self.assertEqual(Type.read("(a -> b) -> c").positive, ("a", "c"))
        self.assertEqual(Type.read("(a -> b) -> c").negative, ("b",))
        self.assertEqual(Type.read("((a -> b) -> c) -> d").positive, ("b", "d"))
        self.assertEqual(Type.read("((a -> b) -> c) -> d").negative, ("a", "c"))
        self.assertEqual(Type.plain("a").negative, ())

    def test_properties_cannot_be_assigned(self):
        one = Type.read("(a -> b) -> a -> c")
        for name in ["inputs", "atom", "text", "order", "atoms", "parts", "positive", "negative"]:
            with self.assertRaises(AttributeError):
                setattr(one, name, ())
        self.assertEqual(one.text, "(a -> b) -> a -> c")


class Containers(Case):
    """len, indices, iteration, `in`, `==`, str."""

    def test_iteration_yields_the_arguments(self):
        for text in SAMPLE:
            one = Type.read(text)
            self.assertEqual([part.text for part in one], [part.text for part in one.inputs])
            self.assertEqual([part.text for part in list(one)], [part.text for part in tuple(one)])

    def test_indices(self):
        for text in SAMPLE:
            one = Type.read(text)
            self.assertEqual([one[index].text for index in range(len(one.inputs))], [part.text for part in one])

    def test_indices_of_no_argument(self):
        for text in SAMPLE:
            one = Type.read(text)
            many = len(one.inputs)
            wrong = [many, many + 1, 14, -1, -many - 1, 10 ** 60, [0], (0,), "0", True, False, None, one]
            for index in wrong + not_counts():
                error = self.refused(InvalidNumber, one.__getitem__, index)
                if isinstance(index, Exception):
                    self.assertIs(error.number, index)
                else:
                    self.assertTrue(same(error.number, index), shown(index))

    def test_index_by_brackets(self):
        with self.assertRaises(InvalidNumber) as caught:
            Type.read("a -> b")[True]
        self.assertIs(caught.exception.number, True)

    def test_containment(self):
        for text in SAMPLE:
            one = Type.read(text)
            texts = [part.text for part in one.parts]
            for other in SAMPLE + ["b", "c", "z -> y", "x -> z", "w -> z", "a -> c", "b -> c", "(a -> b) -> a -> d"]:
                self.assertIs(Type.read(other) in one, other in texts, (other, text))

    def test_no_other_value_is_contained(self):
        one = Type.read("(a -> b) -> a -> c")
        for value in not_types() + ["a -> b", "c", ("a",), one.inputs]:
            self.assertIs(value in one, False, shown(value))

    def test_equality(self):
        for one, other in itertools.product(SAMPLE, SAMPLE):
            self.assertIs(Type.read(one) == Type.read(other), one == other)
            self.assertIs(Type.read(one) != Type.read(other), one != other)

    def test_equality_of_types_made_otherwise(self):
        made = Type((Type((Type.plain("a"),), "b"), Type.plain("a")), "c")
        self.assertIs(made == Type.read("(a -> b) -> a -> c"), True)
        self.assertIs(made != Type.read("(a -> b) -> a -> c"), False)

    def test_equality_takes_every_value(self):
        one = Type.plain("q")
        for value in all_values() + ["q", ((), "q"), ["q"]]:
            self.assertIs(one == value, False, shown(value))
            self.assertIs(one != value, True, shown(value))
            self.assertIs(value == one, False, shown(value))

    def test_texts(self):
        for text in SAMPLE:
            self.assertTrue(same(str(Type.read(text)), text))


class Operators(Case):
    """`>>` and `%`."""

    def test_further_argument(self):
        for one, other in itertools.product(SAMPLE[:12], SAMPLE[:12]):
            made = Type.read(one) >> Type.read(other)
            ahead = "(" + one + ")" if "->" in one else one
            self.assertEqual(made.text, ahead + " -> " + other)

    def test_further_argument_that_makes_too_large_a_type(self):
        for one, other in [("a", FIFTEEN), (FIFTEEN, "a"), ("a -> b", " -> ".join(["a"] * 14)), (ORDER_FOUR, "a"),
                           (ORDER_FOUR, ORDER_FOUR)]:
            first, second = Type.read(one), Type.read(other)
            self.refused(InvalidType, lambda: first >> second)
            self.assertEqual([first.text, second.text], [one, other])

    def test_further_argument_up_to_the_limits(self):
        self.assertEqual(len(Type.plain("a") >> Type.read(" -> ".join(["a"] * 14))), 15)
        self.assertEqual((Type.read("((a -> b) -> c) -> d") >> Type.read(ORDER_FOUR)).order, 4)

    def test_operand_that_is_no_type(self):
        for value in not_types():
            self.refused(InvalidOperation, lambda: Type.plain("a") >> value)
            self.refused(InvalidOperation, lambda: Type.read(FIFTEEN) >> value)
            self.refused(InvalidOperation, lambda: value >> Type.plain("a"))

    def test_without_first_arguments(self):
        for text in SAMPLE:
            one = Type.read(text)
            for count in range(len(one.inputs) + 1):
                made = one % count
                self.assertEqual([part.text for part in made], [part.text for part in one.inputs[count:]])
                self.assertEqual(made.atom, one.atom)
            self.assertEqual((one % 0).text, text)
            self.assertEqual((one % len(one.inputs)).text, one.atom)

    def test_counts_that_are_none(self):
        for text in SAMPLE:
            one = Type.read(text)
            many = len(one.inputs)
            wrong = [many + 1, 15, -1, -many - 1, 10 ** 60, True, False, None, "1", one]
            for count in wrong + not_counts():
                self.refused(InvalidOperation, lambda: one % count)
        self.refused(InvalidOperation, lambda: 1 % Type.read("a -> b"))

    def test_nothing_is_changed(self):
        one, other = Type.read("(a -> b) -> a -> c"), Type.read("d -> e")
        one >> other, other >> one, one % 1, one % 2
        self.assertEqual([one.text, other.text, len(one), one.order], ["(a -> b) -> a -> c", "d -> e", 4, 2])


class Renaming(Case):
    def test_all_renamings_of_small_types(self):
        for tree in small_trees():
            one = built(tree)
            for words in itertools.product(["a", "b", "zz"], repeat=len(one.atoms)):
                names = dict(zip(one.atoms, words))
                self.assertEqual(one.renamed(names).text, text_of(with_names(tree, names)))

    def test_order_of_the_dict_has_no_effect(self):
        one = Type.read("(a -> b) -> a -> c")
        for pairs in itertools.permutations([("a", "b"), ("b", "c"), ("c", "a")]):
            self.assertEqual(one.renamed(dict(pairs)).text, "(b -> c) -> b -> a")

    def test_names_that_are_no_such_dict(self):
        one = Type.read("(a -> b) -> a")
        wrong = [{}, {"a": "n"}, {"b": "n"}, {"a": "n", "b": "m", "c": "n"}, {"a": "n", "c": "m"},
                 {"a": "n", "b": "B"}, {"a": "", "b": "m"}, {"a": "n", "b": None}, {"a": Type.plain("n"), "b": "m"},
                 {"a": "x0", "b": "m"}, {"a": "n", "b": "abcdefghi"}, {"a": ["n"], "b": "m"}, {"a": "n", "b": 1},
                 {"a": "n", "b": "m", 1: "k"}, {"a": "n", ("b",): "m"}, {"a": "n", None: "m"}, [("a", "n"), ("b", "m")],
                 (("a", "n"), ("b", "m")), ["a", "b"], ("a", "b"), "ab"]
        for names in wrong + all_values():
            self.refused(InvalidOperation, one.renamed, names)

    def test_inner_types_are_not_asked_for_further_names(self):
        self.assertEqual(Type.read("(a -> b) -> (c -> d) -> e").renamed(dict(zip("abcde", "edcba"))).text,
                         "(e -> d) -> (c -> b) -> a")

    def test_nothing_is_changed_or_shared(self):
        one, names = Type.read("(a -> b) -> a"), {"b": "k", "a": "n"}
        made = one.renamed(names)
        self.assertEqual([one.text, list(names.items())], ["(a -> b) -> a", [("b", "k"), ("a", "n")]])
        names["a"] = "q"
        self.assertEqual(made.text, "(n -> k) -> n")

    def test_large_types(self):
        self.assertEqual(Type.read(FIFTEEN).renamed({"a": "abcdefgh"}).text, FIFTEEN.replace("a", "abcdefgh"))
        self.assertEqual(Type.read(ORDER_FOUR).renamed(dict(zip("abcde", "aaaaa"))), built(deep_tree(4)))


class PuttingIn(Case):
    def test_small_types(self):
        others = [tree for places in range(1, 4) for tree in trees(places, "ac")]
        for tree in small_trees():
            if len(places_of(tree)) > 4:
                continue
            for atom, other in itertools.product("abc", others):
                due = with_put(tree, atom, other)
                if is_small(due):
                    self.assertEqual(built(tree).put(atom, built(other)).text, text_of(due))
                else:
                    self.refused(InvalidType, built(tree).put, atom, built(other))

    def test_arguments_come_behind_those_that_stand_there(self):
        one = Type.read("(a -> c) -> b -> c")
        self.assertEqual(one.put("c", Type.read("(d -> c) -> e")).text, "(a -> (d -> c) -> e) -> b -> (d -> c) -> e")
        self.assertEqual(one.put("a", Type.read("d -> e")).text, "((d -> e) -> c) -> b -> c")
        self.assertEqual(one.put("a", Type.plain("c")).text, "(c -> c) -> b -> c")

    def test_atom_that_is_absent(self):
        for text in SAMPLE:
            self.assertEqual(Type.read(text).put("absent", Type.read(FIFTEEN)).text, text)

    def test_the_same_atom_is_not_put_in_again(self):
        self.assertEqual(Type.read("a -> b").put("a", Type.read("a -> a")).text, "(a -> a) -> b")

    def test_results_that_are_too_large(self):
        for text, atom, other in [(FIFTEEN, "a", "a -> b"), ("a -> b", "b", FIFTEEN), (ORDER_FOUR, "a", "b -> c"),
                                  ("a -> b", "a", ORDER_FOUR), ("a -> a", "a", " -> ".join(["c"] * 8))]:
            self.refused(InvalidType, Type.read(text).put, atom, Type.read(other))

    def test_results_up_to_the_limits(self):
        self.assertEqual(Type.read("b").put("b", Type.read(FIFTEEN)).text, FIFTEEN)
        self.assertEqual(len(Type.read("a -> b").put("a", Type.read(" -> ".join(["c"] * 14)))), 15)
        self.assertEqual(Type.read("a -> b").put("a", Type.read("((a -> b) -> c) -> d")).order, 4)
        self.assertEqual(Type.read(ORDER_FOUR).put("b", Type.read("a -> b")).order, 4)

    def test_atom_that_is_no_word(self):
        for value in not_words():
            self.refused(InvalidWord, Type.read("a -> b").put, value, Type.plain("a"))

    def test_other_that_is_no_type(self):
        for value in not_types():
            self.refused(InvalidType, Type.read("a -> b").put, "a", value)
            self.refused(InvalidType, Type.read("a -> b").put, "absent", value)

    def test_the_atom_is_checked_ahead_of_the_other_type(self):
        for atom in ["A", "", None, 1, ["a"]]:
            for other in [None, "a", ("a",), 1]:
                self.refused(InvalidWord, Type.read("a -> b").put, atom, other)
            self.refused(InvalidWord, Type.read(FIFTEEN).put, atom, Type.read(FIFTEEN))

    def test_nothing_is_changed(self):
        one, other = Type.read("(a -> b) -> a"), Type.read("c -> d")
        one.put("a", other)
        self.assertEqual([one.text, other.text], ["(a -> b) -> a", "c -> d"])


class Errors(Case):
    def test_all_errors_of_the_module_are_those_of_the_package(self):
        for name in ["InvalidNumber", "InvalidOperation", "InvalidType", "InvalidWord", "ParseError"]:
            self.assertIs(getattr(types, name), getattr(errors, name))


if __name__ == "__main__":
    unittest.main()
