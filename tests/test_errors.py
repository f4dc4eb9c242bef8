import copy
import unittest

from nextstands import errors

# The name of each class, its one field, and the class that it derives from.
CLASSES = (
    ("NotWay", "way", ValueError),
    ("BadLine", "line", ValueError),
    ("BadScript", "line", ValueError),
    ("NoNumber", "number", LookupError),
    ("NoChair", "chair", LookupError),
    ("OtherPeople", "many", RuntimeError),
)
VALUES = (0, -7, 10 ** 5000, True, None, "", "5: 3 0", [], [3, 1], (1, [2]), {"a": 1}, b"x", object())


class ErrorsTest(unittest.TestCase):
    def each(self):
        return [(getattr(errors, name), field, base) for name, field, base in CLASSES]

    def test_created_by_position(self):
        for made, field, _ in self.each():
            for value in VALUES:
                self.assertIs(getattr(made(value), field), value)

    def test_created_by_name(self):
        for made, field, _ in self.each():
            for value in VALUES:
                self.assertIs(getattr(made(**{field: value}), field), value)

    def test_one_parameter_only(self):
        for made, field, _ in self.each():
            with self.assertRaises(TypeError):
                made()
            with self.assertRaises(TypeError):
                made(1, 2)
            with self.assertRaises(TypeError):
                made(other=1)
            self.assertEqual(list(vars(made(1))), [field])

    def test_derives_directly_from_the_named_class(self):
        for made, _, base in self.each():
            self.assertEqual(made.__bases__, (base,))

    def test_derives_from_no_other_error_of_the_package(self):
        every = [getattr(errors, name) for name, _, _ in CLASSES]
        for made in every:
            self.assertEqual([other for other in every if issubclass(made, other)], [made])

    def test_raised_and_caught(self):
        for made, field, base in self.each():
            for caught in (made, base):
                with self.assertRaises(caught) as held:
                    raise made([4])
                self.assertEqual(getattr(held.exception, field), [4])

    def test_can_be_shown_and_copied_with_any_value(self):
        for made, field, _ in self.each():
            for value in VALUES:
                self.assertIsInstance(str(made(value)), str)
                self.assertIs(getattr(copy.copy(made(**{field: value})), field), value)

    def test_defined_in_errors(self):
        for made, _, _ in self.each():
            self.assertEqual(made.__module__, "nextstands.errors")
