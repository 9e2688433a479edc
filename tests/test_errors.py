import copy
import unittest

from fromparts import errors
from values import all_values, nested, same, shown

TELLING = ["InvalidWord", "InvalidType", "InvalidLibrary", "InvalidProgram", "InvalidQuestion", "InvalidRoom",
           "InvalidDraft", "InvalidOperation"]
KEEPING = [
    ("UnknownWord", KeyError, "asked"),
    ("NoProgram", LookupError, "wanted"),
    ("NothingToUndo", IndexError, "amount"),
    ("TooMany", OverflowError, "limit"),
    ("Refused", ArithmeticError, "cause"),
    ("InvalidNumber", RuntimeError, "number"),
]


class Bases(unittest.TestCase):
    """[1.1] and [1.2]: what each class is directly derived from."""

    def test_build_error(self):
        self.assertEqual(errors.BuildError.__bases__, (ValueError,))

    def test_errors_of_kinds_of_values(self):
        for name in TELLING + ["ParseError"]:
            self.assertEqual(getattr(errors, name).__bases__, (errors.BuildError,), name)

    def test_errors_that_keep_a_value(self):
        for name, base, _ in KEEPING:
            self.assertEqual(getattr(errors, name).__bases__, (base,), name)

    def test_each_is_defined_in_the_module(self):
        for name in TELLING + ["BuildError", "ParseError"] + [row[0] for row in KEEPING]:
            self.assertEqual(getattr(errors, name).__module__, "fromparts.errors")
            self.assertEqual(getattr(errors, name).__name__, name)

    def test_none_is_caught_as_another_one(self):
        for name in TELLING:
            for other in TELLING + ["ParseError"]:
                made = getattr(errors, name)("why")
                self.assertEqual(isinstance(made, getattr(errors, other)), name == other)

    def test_those_that_keep_a_value_are_no_build_errors(self):
        for name, _, _ in KEEPING:
            self.assertNotIsInstance(getattr(errors, name)(1), errors.BuildError)


class Kept(unittest.TestCase):
    """[1.1] and [1.2]: messages, and the attributes that keep the arguments."""

    def test_messages(self):
        for name in TELLING + ["BuildError"]:
            with self.assertRaises(getattr(errors, name)) as caught:
                raise getattr(errors, name)("the reason")
            self.assertEqual(str(caught.exception), "the reason")

    def test_line(self):
        for line in [None, 0, 1, 17, 10 ** 59]:
            self.assertTrue(same(errors.ParseError(line).line, line))
            self.assertTrue(same(errors.ParseError(line=line).line, line))
        self.assertIsInstance(str(errors.ParseError(3)), str)

    def test_every_sort_of_argument(self):
        for name, _, attribute in KEEPING + [("ParseError", None, "line")]:
            for value in all_values():
                made = getattr(errors, name)(value)
                kept = vars(made)
                self.assertEqual(list(kept), [attribute])
                if isinstance(value, BaseException):
                    self.assertIs(kept[attribute], value)
                else:
                    self.assertTrue(same(kept[attribute], value), (name, shown(value)))
                self.assertIsInstance(str(made), str)

    def test_argument_by_its_name(self):
        for name, _, attribute in KEEPING:
            made = getattr(errors, name)(**{attribute: "some"})
            self.assertEqual(getattr(made, attribute), "some")

    def test_just_one_argument(self):
        for name in ["ParseError"] + [row[0] for row in KEEPING]:
            for wrong in [(), (1, 2)]:
                with self.assertRaises(TypeError):
                    getattr(errors, name)(*wrong)

    def test_raised_and_caught_by_python_s_own_class(self):
        for name, base, attribute in KEEPING:
            with self.assertRaises(base) as caught:
                raise getattr(errors, name)((1, "a"))
            self.assertEqual(getattr(caught.exception, attribute), (1, "a"))


class Shared(unittest.TestCase):
    """[0.2]: no state is shared, nothing is changed, `==` takes all, and nothing is iterated over."""

    def test_later_changes_of_the_argument_are_not_seen(self):
        for name, _, attribute in KEEPING + [("ParseError", None, "line")]:
            inner = ["a"]
            for value, change in [(inner, inner), ((1, inner), inner), ({"k": inner}, inner), ([[(inner,)]], inner)]:
                ahead = copy.deepcopy(value)
                made = getattr(errors, name)(value)
                change.append("b")
                self.assertEqual(getattr(made, attribute), ahead)
        names = {"a": 1}
        made = errors.Refused(names)
        names["b"] = 2
        self.assertEqual(made.cause, {"a": 1})

    def test_arguments_stay_as_they_are(self):
        for name, _, _ in KEEPING:
            for value in [nested(8), [[1], {"a": [2]}], {"b": 1, "a": 2}]:
                ahead = copy.deepcopy(value)
                getattr(errors, name)(value)
                self.assertTrue(same(value, ahead))

    def test_equality_takes_every_value(self):
        made = errors.UnknownWord("a")
        for value in all_values():
            self.assertIs(made == value, False)
            self.assertIs(made != value, True)
        self.assertIs(made == made, True)

    def test_no_iteration(self):
        for name in TELLING + ["ParseError"] + [row[0] for row in KEEPING]:
            with self.assertRaises(TypeError):
                iter(getattr(errors, name)("a"))


if __name__ == "__main__":
    unittest.main()
