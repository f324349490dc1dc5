"""The error classes: where they stand and what they keep."""

import copy
import pickle
import unittest

from latecomers import errors
from latecomers.errors import LateError

PLAIN = ["NoWidth", "NoSpace", "NoMatrix", "NoRule", "NoStand", "NoWord", "NoState",
         "Unlike", "NoClaims", "NoMany", "NoCells", "NoCell", "NoNumber"]

KEEPING = {"NoVector": "index", "NoMessage": "index", "NoListener": "place", "NoScript": "place",
           "NoChaser": "place", "TooGreat": "rule", "NoSender": "state", "NoText": "line"}


class ErrorsTest(unittest.TestCase):

    def test_late_error_stands_directly_under_value_error(self):
        self.assertEqual(LateError.__bases__, (ValueError,))
        self.assertIsInstance(LateError(), ValueError)

    def test_each_error_stands_directly_under_late_error(self):
        self.assertEqual(len(PLAIN) + len(KEEPING), 21)
        for name in PLAIN + list(KEEPING):
            with self.subTest(name):
                error = getattr(errors, name)
                self.assertEqual(error.__bases__, (LateError,))
                self.assertEqual(error.__name__, name)
                self.assertEqual(error.__module__, "latecomers.errors")

    def test_no_other_error_is_there(self):
        found = [name for name, value in vars(errors).items() if isinstance(value, type)]
        self.assertEqual(sorted(found), sorted(PLAIN + list(KEEPING) + ["LateError"]))

    def test_plain_errors_are_created_without_arguments(self):
        for name in PLAIN:
            with self.subTest(name):
                error = getattr(errors, name)
                with self.assertRaises(error):
                    raise error()

    def test_the_others_keep_what_they_are_created_with(self):
        kept = [0, -1, 7, 10 ** 5000, True, None, "rules", "", (0, 1), (), [1, [2]], {"a": 1}, 1.5,
                object(), ValueError("inner")]
        for name, attribute in KEEPING.items():
            for value in kept:
                with self.subTest(name, kind=value.__class__.__name__):
                    error = getattr(errors, name)
                    with self.assertRaises(error) as caught:
                        raise error(value)
                    self.assertIs(getattr(caught.exception, attribute), value)

    def test_the_others_need_their_argument(self):
        for name in KEEPING:
            with self.subTest(name), self.assertRaises(TypeError):
                getattr(errors, name)()

    def test_each_error_is_caught_as_late_error_and_as_value_error_alone(self):
        for name in PLAIN + list(KEEPING):
            error = getattr(errors, name)
            made = error() if name in PLAIN else error(3)
            others = [other for other in PLAIN + list(KEEPING) if other != name]
            with self.subTest(name):
                self.assertIsInstance(made, LateError)
                self.assertIsInstance(made, ValueError)
                self.assertFalse(isinstance(made, tuple(getattr(errors, other) for other in others)))

    def test_copies_keep_it_too(self):
        for name, attribute in KEEPING.items():
            made = getattr(errors, name)((1, 2))
            for other in (copy.copy(made), pickle.loads(pickle.dumps(made))):
                with self.subTest(name):
                    self.assertEqual(getattr(other, attribute), (1, 2))


if __name__ == "__main__":
    unittest.main()
