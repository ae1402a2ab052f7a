"""Errors: point [2] and the section abacushead/errors.py."""

import unittest

from abacushead import errors

HEAD_ERRORS = [
    ("InvalidRow", "field"),
    ("InvalidNumber", "value"),
    ("InvalidState", "value"),
    ("InvalidSequence", "index"),
    ("InvalidEffect", "value"),
    ("InvalidTarget", "value"),
    ("InvalidText", "value"),
    ("InvalidCommand", "word"),
]

OTHER_ERRORS = [
    ("OutOfRow", "index", IndexError),
    ("InvalidLimit", "value", ValueError),
    ("LimitExceeded", "limit", OverflowError),
    ("UnknownName", "name", KeyError),
    ("NothingToUndo", "user", LookupError),
    ("OverBudget", "missing", RuntimeError),
    ("GoalLost", "missing", ArithmeticError),
]

ATTRIBUTES = HEAD_ERRORS + [(name, attribute) for name, attribute, _ in OTHER_ERRORS]

VALUES = [
    None, True, False, 0, -7, 10 ** 400, 10 ** 5000, 1.5, "", "base", "50%", b"x",
    (), ((1, 0), 3), [], [1, [2]], {}, {"a": [1]}, {1, 2}, object(), int, len,
    ValueError("x"),
]


class HeadErrorsTest(unittest.TestCase):
    def test_base_class(self):
        self.assertEqual(errors.HeadError.__bases__, (Exception,))

    def test_subclasses_of_head_error(self):
        for name, _ in HEAD_ERRORS:
            with self.subTest(name=name):
                self.assertTrue(issubclass(getattr(errors, name), errors.HeadError))

    def test_none_is_a_subclass_of_another(self):
        for one, _ in HEAD_ERRORS:
            for other, _ in HEAD_ERRORS:
                if one != other:
                    with self.subTest(one=one, other=other):
                        self.assertFalse(issubclass(getattr(errors, one), getattr(errors, other)))

    def test_head_errors_have_no_other_base_of_python(self):
        for name, _ in HEAD_ERRORS:
            for _, _, base in OTHER_ERRORS:
                with self.subTest(name=name, base=base):
                    self.assertFalse(issubclass(getattr(errors, name), base))

    def test_head_error_is_caught(self):
        for name, _ in HEAD_ERRORS:
            with self.subTest(name=name), self.assertRaises(errors.HeadError):
                raise getattr(errors, name)(3)


class OtherErrorsTest(unittest.TestCase):
    def test_base_classes(self):
        for name, _, base in OTHER_ERRORS:
            with self.subTest(name=name):
                self.assertEqual(getattr(errors, name).__bases__, (base,))

    def test_no_head_errors(self):
        for name, _, _ in OTHER_ERRORS:
            with self.subTest(name=name):
                self.assertFalse(issubclass(getattr(errors, name), errors.HeadError))

    def test_caught_by_the_base_of_python(self):
        for name, _, base in OTHER_ERRORS:
            with self.subTest(name=name), self.assertRaises(base):
                raise getattr(errors, name)(3)


class AttributesTest(unittest.TestCase):
    def test_defined_in_the_module(self):
        for name, _ in ATTRIBUTES + [("HeadError", None)]:
            with self.subTest(name=name):
                self.assertIsInstance(getattr(errors, name), type)
                self.assertEqual(getattr(errors, name).__module__, "abacushead.errors")
                self.assertEqual(getattr(errors, name).__name__, name)

    def test_argument_by_position(self):
        for name, attribute in ATTRIBUTES:
            for value in VALUES:
                with self.subTest(name=name, kind=type(value)):
                    self.assertIs(getattr(getattr(errors, name)(value), attribute), value)

    def test_argument_by_keyword(self):
        for name, attribute in ATTRIBUTES:
            for value in VALUES:
                with self.subTest(name=name, kind=type(value)):
                    error = getattr(errors, name)(**{attribute: value})
                    self.assertIs(getattr(error, attribute), value)

    def test_attribute_after_raising(self):
        for name, attribute in ATTRIBUTES:
            for value in VALUES:
                with self.subTest(name=name, kind=type(value)):
                    with self.assertRaises(getattr(errors, name)) as caught:
                        raise getattr(errors, name)(value)
                    self.assertIs(getattr(caught.exception, attribute), value)

    def test_two_errors_are_independent(self):
        for name, attribute in ATTRIBUTES:
            with self.subTest(name=name):
                one, other = getattr(errors, name)(1), getattr(errors, name)(2)
                self.assertEqual((getattr(one, attribute), getattr(other, attribute)), (1, 2))

    def test_one_argument_is_needed(self):
        for name, attribute in ATTRIBUTES:
            with self.subTest(name=name):
                self.assertRaises(TypeError, getattr(errors, name))
                self.assertRaises(TypeError, getattr(errors, name), 1, 2)
                self.assertRaises(TypeError, getattr(errors, name), 1, **{attribute: 2})


if __name__ == "__main__":
    unittest.main()
