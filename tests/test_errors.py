import copy
import inspect
import unittest

from tollround import errors
from tests.samples import Checks

CLASSES = {
    "NoPerson": (LookupError, "person"),
    "NoSeat": (LookupError, "seat"),
    "NoNumber": (LookupError, "number"),
    "NoDeed": (LookupError, "many"),
    "OtherPeople": (ValueError, "many"),
    "BadDeed": (ValueError, "at"),
    "BadText": (ValueError, "text"),
    "BadLine": (ValueError, "at"),
    "Empty": (RuntimeError, "person"),
    "Barred": (RuntimeError, "reason"),
    "Stops": (RuntimeError, "many"),
    "Few": (RuntimeError, None),
    "TooMany": (OverflowError, "many"),
    "Full": (OverflowError, "many"),
}
VALUES = [0, 7, -1, 10 ** 42, 10 ** 5000, "", "total", "0:1 0:2"]


class ErrorsTest(Checks, unittest.TestCase):
    def test_the_classes_are_those_of_the_document(self):
        found = {name for name, thing in vars(errors).items() if inspect.isclass(thing)}
        self.assertEqual(found, set(CLASSES))

    def test_each_has_exactly_the_base_class_of_the_document(self):
        for name, (base, _) in CLASSES.items():
            self.assertEqual(getattr(errors, name).__bases__, (base,), name)

    def test_each_is_defined_in_this_file(self):
        for name in CLASSES:
            self.assertEqual(getattr(errors, name).__module__, "tollround.errors")

    def test_made_by_position_and_by_name(self):
        for name, (_, attribute) in CLASSES.items():
            if attribute is None:
                continue
            for value in VALUES:
                made = getattr(errors, name)(value)
                self.assert_exact(getattr(made, attribute), value)
                made = getattr(errors, name)(**{attribute: value})
                self.assert_exact(getattr(made, attribute), value)

    def test_each_has_a_message_whatever_the_value(self):
        for name, (_, attribute) in CLASSES.items():
            for value in VALUES if attribute else []:
                self.assertIsInstance(str(getattr(errors, name)(value)), str)

    def test_too_few_and_too_many_values(self):
        for name, (_, attribute) in CLASSES.items():
            if attribute is None:
                continue
            with self.assertRaises(TypeError):
                getattr(errors, name)()
            with self.assertRaises(TypeError):
                getattr(errors, name)(1, 2)
            with self.assertRaises(TypeError):
                getattr(errors, name)(other=1)

    def test_few_takes_none(self):
        self.assertIsInstance(errors.Few(), RuntimeError)
        with self.assertRaises(TypeError):
            errors.Few(2)
        with self.assertRaises(TypeError):
            errors.Few(many=2)

    def test_raised_and_caught_by_the_base_class(self):
        for name, (base, attribute) in CLASSES.items():
            with self.assertRaises(base) as caught:
                raise getattr(errors, name)(*([5] if attribute else []))
            if attribute:
                self.assertEqual(getattr(caught.exception, attribute), 5)

    def test_copies_keep_the_value(self):
        for name, (_, attribute) in CLASSES.items():
            made = copy.copy(getattr(errors, name)(*([5] if attribute else [])))
            self.assertEqual(type(made).__name__, name)
            if attribute:
                self.assertEqual(getattr(made, attribute), 5)


if __name__ == "__main__":
    unittest.main()
