import inspect
import unittest

from fromparts.base import words
from fromparts.base.words import GAP, MAX_LETTERS, VARIABLE, is_integer, is_variable, is_word
from values import (BOOLEANS, CONTAINERS, INTEGERS, LONG_INTEGERS, STRINGS, WORDS, all_values, objects, same,
                    shown)


class Interface(unittest.TestCase):
    def test_constants(self):
        self.assertTrue(same((MAX_LETTERS, GAP, VARIABLE), (8, "?", "x")))

    def test_functions(self):
        for name in ["is_integer", "is_word", "is_variable"]:
            function = getattr(words, name)
            self.assertEqual(function.__module__, "fromparts.base.words")
            self.assertEqual(list(inspect.signature(function).parameters), ["value"])

    def test_answers_are_booleans_for_every_value(self):
        for function in [is_integer, is_word, is_variable]:
            for value in all_values():
                self.assertIn(function(value), [True, False])
                self.assertIsInstance(function(value), bool, shown(value))

    def test_example(self):
        told = [is_word("cons"), is_word("x0"), is_word(""), is_variable("x0"), is_variable("x12"),
                is_variable("x007"), is_integer(True)]
        self.assertEqual(told, [True, False, False, True, True, False, False])


class Integers(unittest.TestCase):
    """[0.1]: at most sixty digits, and neither True nor False."""

    def test_integers(self):
        for value in INTEGERS:
            self.assertIs(is_integer(value), True, value)

    def test_sixty_and_sixty_one_digits(self):
        for digits in ["9" * 60, "1" + "0" * 59, "-" + "9" * 60, "-1" + "0" * 59]:
            self.assertIs(is_integer(int(digits)), True, digits)
        for digits in ["9" * 61, "1" + "0" * 60, "-" + "9" * 61, "-1" + "0" * 60, "5" * 100]:
            self.assertIs(is_integer(int(digits)), False, digits)

    def test_others(self):
        for value in LONG_INTEGERS + BOOLEANS + WORDS + STRINGS + CONTAINERS + objects() + [None, "12"]:
            self.assertIs(is_integer(value), False, shown(value))


class Words(unittest.TestCase):
    """[0.7]: one to eight letters a to z."""

    def test_words(self):
        for value in WORDS:
            self.assertIs(is_word(value), True, value)

    def test_lengths(self):
        self.assertEqual([is_word("k" * many) for many in range(12)], [1 <= many <= 8 for many in range(12)])

    def test_each_printable_character(self):
        for code in [10] + list(range(32, 127)):
            for text in [chr(code), "a" + chr(code), chr(code) + "a", "ab" + chr(code) + "cd"]:
                self.assertIs(is_word(text), 97 <= code <= 122, repr(text))

    def test_others(self):
        for value in INTEGERS + LONG_INTEGERS + BOOLEANS + STRINGS + CONTAINERS + objects() + [None]:
            self.assertIs(is_word(value), False, shown(value))

    def test_containers_of_letters(self):
        for value in [["a"], ("a", "b"), {"a": "b"}]:
            self.assertIs(is_word(value), False)


class Variables(unittest.TestCase):
    """x and an integer from 0 to 99, as written by str."""

    def test_all_variables(self):
        for level in range(100):
            self.assertIs(is_variable("x" + str(level)), True, level)

    def test_levels_that_are_too_great(self):
        for level in [100, 101, 110, 999, 1000, 10 ** 59]:
            self.assertIs(is_variable("x" + str(level)), False, level)

    def test_near_misses(self):
        for value in ["x", "x00", "x01", "x007", "x09", "x-1", "x-0", "x+1", "x 1", " x1", "x1 ", "x1\n", "\nx1", "x\n",
                      "X0", "y0", "0", "10", "0x", "1x", "xx", "xx0", "x0x", "x1.", "x1_", "x_1", "x1_0", "x?", "?",
                      "x" + "1" * 8999, "x:", "x/", "x1:", "x1/"]:
            self.assertIs(is_variable(value), False, shown(value))

    def test_each_text_of_two_characters(self):
        codes = [10] + list(range(32, 127))
        held = [chr(one) + chr(two) for one in codes for two in codes if is_variable(chr(one) + chr(two))]
        self.assertEqual(held, ["x" + str(level) for level in range(10)])

    def test_others(self):
        values = INTEGERS + LONG_INTEGERS + BOOLEANS + CONTAINERS + objects() + [None, ["x0"], ("x", "0"), {"x0": 1}]
        for value in values:
            self.assertIs(is_variable(value), False, shown(value))
        for value in WORDS + [one for one in STRINGS if one != "x0"]:
            self.assertIs(is_variable(value), False, shown(value))


if __name__ == "__main__":
    unittest.main()
