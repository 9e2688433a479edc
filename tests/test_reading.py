import itertools
import unittest

from fromparts.base.types import Type
from fromparts.errors import InvalidType, InvalidWord, ParseError
from trees import FIFTEEN, ORDER_FOUR, SAMPLE, built, is_text, small_trees, text_of
from values import all_values, shown


class Reading(unittest.TestCase):
    """Type.read: [2.1], each type has one text, and each text of a type gives it back."""

    def refuse(self, text):
        with self.assertRaises(ParseError, msg=shown(text)) as caught:
            Type.read(text)
        self.assertIs(caught.exception.__class__, ParseError, shown(text))
        self.assertIsNone(caught.exception.line, shown(text))

    def check(self, text):
        """That a text is read if and only if it is that of a type."""
        if is_text(text):
            self.assertEqual(Type.read(text).text, text)
        else:
            self.refuse(text)

    def test_keyword(self):
        self.assertEqual(Type.read(text="a -> b").text, "a -> b")

    def test_each_text_gives_its_type_back(self):
        for tree in small_trees():
            one = Type.read(text_of(tree))
            self.assertTrue(one == built(tree), text_of(tree))
            self.assertEqual(one.text, text_of(tree))

    def test_texts_of_different_types_differ(self):
        found = [text_of(tree) for tree in small_trees()]
        self.assertEqual(len(set(found)), len(found))

    def test_large_types(self):
        seven = "(" + " -> ".join(["abcdefgh"] * 7) + ")"
        for text in [FIFTEEN, ORDER_FOUR, seven + " -> " + seven + " -> b",
                     "(((a -> b -> b) -> a -> b) -> (a -> b) -> a) -> (a -> b) -> ((a -> b) -> a) -> c"]:
            self.assertTrue(is_text(text))
            self.assertEqual(Type.read(text).text, text)

    def test_types_that_are_too_large(self):
        seven = "(" + " -> ".join(["a"] * 7) + ")"
        for text in [FIFTEEN + " -> a", "a -> " + FIFTEEN, "(" + FIFTEEN + ") -> a", "(" + ORDER_FOUR + ") -> a",
                     "((((a -> a) -> a) -> a) -> a) -> a", seven + " -> a -> " + seven + " -> a",
                     "a -> ((((a -> a) -> a) -> a) -> a) -> a", "((((a -> a) -> a) -> a) -> a) -> a -> a"]:
            self.refuse(text)

    def test_example(self):
        self.refuse("a -> (b)")

    def test_values_that_are_no_strings(self):
        for value in all_values() + [["a"], ("a", "b"), {"a": 1}, Type.plain("a")]:
            if not isinstance(value, str):
                self.refuse(value)

    def test_strings_of_every_sort(self):
        for value in all_values():
            if isinstance(value, str):
                self.check(value)

    def test_blanks_that_are_not_due(self):
        for text in [" a", "a ", "a\n", "\na", "a  -> b", "a ->  b", "a-> b", "a ->b", "a->b", "a -> b ", " a -> b",
                     "a -> b\n", "a\n-> b", "a ->\nb", "( a -> b) -> c", "(a -> b ) -> c", "(a -> b)-> c",
                     "(a -> b) ->c", " (a -> b) -> c", "a b", "a - > b", "a\t-> b", "(a -> b)  -> c"]:
            self.refuse(text)

    def test_parentheses_that_are_not_due(self):
        for text in ["(a)", "((a))", "(a -> b)", "((a -> b))", "(a) -> b", "a -> (b)", "a -> (b -> c)", "(a -> b -> c)",
                     "((a -> b)) -> c", "((a) -> b) -> c", "(a -> (b)) -> c", "(a -> (b -> c)) -> d", "()", "() -> a",
                     "a -> ()", "((a -> b) -> c)"]:
            self.refuse(text)

    def test_parentheses_that_do_not_match(self):
        for text in ["(", ")", ")(", "(a", "a)", "(a -> b", "a -> b)", "(a -> b)) -> c", "((a -> b) -> c", ")a -> b(",
                     "a) -> (b", "a) -> (b -> c", "(a -> b)(c -> d) -> e", "(a -> b)c -> d", "a(b -> c) -> d",
                     "(a -> b) (c -> d) -> e", "(a -> b) -> c -> (d", ")a -> b( -> c", "(a -> b)) -> (c -> d",
                     "(a -> b) -> )c(", "[a -> b] -> c"]:
            self.refuse(text)

    def test_signs_and_words_more_less_or_wrong(self):
        for text in ["", " ", "->", " -> ", "a ->", "-> a", " -> a", "a -> ", "a -> -> b", "a -> -> -> b", "a - b",
                     "a > b", "a => b", "a <- b", "a -> -> ", "A", "A -> b", "a -> B", "a1 -> b", "x0", "a -> x0", "?",
                     "a -> ?", "abcdefghi", "a -> abcdefghi", "abcdefghi -> a", "(abcdefghi -> a) -> b", "a, b", "a; b",
                     "a -> b c", "a b -> c", "a -> b -> ", "(a -> ) -> b", "( -> a) -> b", "( -> ) -> a", "a\n", "-",
                     "a#b", "# -> a", "(a -> b) -> #", "a : b", "f : a -> b"]:
            self.refuse(text)

    def test_one_character_more_less_or_other(self):
        for text in SAMPLE + ["(a -> b) -> (c -> (d -> e) -> f) -> g"]:
            for at in range(len(text) + 1):
                self.check(text[:at] + text[at + 1:])
                for sign in "a(->) \nA1":
                    self.check(text[:at] + sign + text[at:])
                    self.check(text[:at] + sign + text[at + 1:])

    def test_signs_and_words_lost_doubled_and_exchanged(self):
        for text in SAMPLE:
            signs = text.replace("(", "( ").replace(")", " )").split(" ")
            for at in range(len(signs)):
                self.check(self.joined(signs[:at] + signs[at + 1:]))
                self.check(self.joined(signs[:at] + [signs[at]] + signs[at:]))
                for other in range(at):
                    swapped = list(signs)
                    swapped[at], swapped[other] = signs[other], signs[at]
                    self.check(self.joined(swapped))

    def test_all_short_rows_of_signs(self):
        for many in range(1, 8):
            for signs in itertools.product(["a", "->", "(", ")"], repeat=many):
                self.check(self.joined(signs))

    def joined(self, signs):
        return " ".join(signs).replace("( ", "(").replace(" )", ")")

    def test_long_texts(self):
        for text in ["a" * 9000, "(" * 9000, ")" * 9000, "(" * 4500 + ")" * 4500, "(" * 4000 + "a" + ")" * 4000,
                     " -> ".join(["a"] * 1800), "a -> " * 1800, "(a -> a) -> " * 700 + "a", " " * 9000, "->" * 4500,
                     "(" * 1000 + "a -> a" + ") -> a" * 1000, "a -> (" * 1500, "(a -> " * 700 + "a" + ")" * 700]:
            self.refuse(text)

    def test_words_of_all_lengths(self):
        for many in range(12):
            self.check("a" * many)
            self.check("a" * many + " -> b")
            self.check("(b -> " + "a" * many + ") -> b")

    def test_errors_of_other_calls_do_not_come_through(self):
        for text in [FIFTEEN + " -> a", "A", "(" + FIFTEEN + " -> a) -> b", "(A -> a) -> b"]:
            try:
                Type.read(text)
            except (InvalidType, InvalidWord):
                self.fail(text)
            except ParseError:
                pass


if __name__ == "__main__":
    unittest.main()
