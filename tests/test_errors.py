"""[5] and the head of the interface: the errors."""

import copy
import inspect
import pickle
import unittest

from drawntold import errors
from helper import Case, nested, nested_list

PLAIN = ("InvalidFraction", "InvalidColumns", "InvalidCount", "InvalidPart", "Refused")
KEEPING = {
    "InvalidTable": "index", "InvalidTelling": "place", "InvalidPicture": "place",
    "InvalidText": "index", "InvalidCommand": "index", "TooMany": "count",
    "Unknown": "word", "Twice": "word",
}
VALUES = (
    0, -1, 10 ** 90 - 1, True, None, "", "price", "%s {0}", "x" * 20000, (), (0, 1), [1, [2]],
    ((),) * 6000, nested(40), nested_list(40),
)


class ErrorTests(Case):
    def test_classes_are_all_there_and_no_others(self):
        found = {name for name, value in vars(errors).items() if inspect.isclass(value)}
        self.assertEqual(found, {"DrawError", *PLAIN, *KEEPING})

    def test_draw_error_is_right_under_value_error(self):
        self.assertEqual(errors.DrawError.__bases__, (ValueError,))

    def test_no_class_stands_under_another_one_but_draw_error(self):
        for name in (*PLAIN, *KEEPING):
            self.assertEqual(getattr(errors, name).__bases__, (errors.DrawError,), name)

    def test_plain_errors_are_made_with_a_string_and_caught_by_each_name(self):
        for name in PLAIN:
            made = getattr(errors, name)
            for caught in (made, errors.DrawError, ValueError):
                with self.assertRaises(caught) as held:
                    raise made("any words")
                self.assertIs(type(held.exception), made)

    def test_keeping_errors_are_caught_by_each_name(self):
        for name in KEEPING:
            made = getattr(errors, name)
            for caught in (made, errors.DrawError, ValueError):
                with self.assertRaises(caught):
                    raise made(3)
            for other in (*PLAIN, *KEEPING):
                self.assertEqual(isinstance(made(3), getattr(errors, other)), other == name)

    def test_fields_keep_the_very_value_by_position_and_by_name(self):
        for name, field in KEEPING.items():
            made = getattr(errors, name)
            for value in VALUES:
                for error in (made(value), made(**{field: value})):
                    self.assertIs(getattr(error, field), value)
                    self.assertEqual(list(vars(error)), [field])

    def test_keeping_errors_are_made_with_one_value(self):
        for name in KEEPING:
            made = getattr(errors, name)
            self.assertRaises(TypeError, made)
            self.assertRaises(TypeError, made, 1, 2)
            self.assertRaises(TypeError, lambda: made(other=1))

    def test_errors_go_to_another_process_and_are_copied(self):
        for name, field in KEEPING.items():
            error = getattr(errors, name)(**{field: (1, "a")})
            for twin in (pickle.loads(pickle.dumps(error)), copy.copy(error)):
                self.assertIs(type(twin), type(error))
                self.assertEqual(getattr(twin, field), (1, "a"))


if __name__ == "__main__":
    unittest.main()
