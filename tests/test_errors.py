"""[11] and what [4] says of error classes."""

import unittest

from freshtold import errors
from tests.values import odd_values

FIELDS = {"Wrong": "place", "NoText": "line", "NotAtPeace": "paper", "NotIndependent": "factors", "NotSound": "paper",
          "NoFit": "paper", "TooMany": "most", "NoCall": "index", "NoAnswer": "answer"}
NAMES = list(FIELDS) + ["NoCommand"]


def class_of(name):
    return getattr(errors, name)


class TestClasses(unittest.TestCase):
    def test_all_are_defined_in_the_file(self):
        for name in NAMES + ["StoreError"]:
            with self.subTest(name):
                self.assertIsInstance(class_of(name), type)
                self.assertEqual(class_of(name).__module__, "freshtold.errors")
                self.assertEqual(class_of(name).__name__, name)

    def test_store_error_is_a_value_error(self):
        self.assertTrue(issubclass(errors.StoreError, ValueError))

    def test_store_error_can_be_made_without_arguments(self):
        self.assertIsInstance(errors.StoreError(), ValueError)

    def test_each_is_a_subclass_of_store_error(self):
        for name in NAMES:
            with self.subTest(name):
                self.assertTrue(issubclass(class_of(name), errors.StoreError))
                self.assertIsNot(class_of(name), errors.StoreError)

    def test_none_is_a_subclass_of_another_one(self):
        for name in NAMES + ["StoreError"]:
            for other in NAMES:
                if other != name:
                    with self.subTest(name, other=other):
                        self.assertFalse(issubclass(class_of(name), class_of(other)))


class TestFields(unittest.TestCase):
    def test_each_keeps_the_very_object(self):
        for name, field in FIELDS.items():
            for value in odd_values():
                with self.subTest(name, value=repr(value)[:60]):
                    self.assertIs(getattr(class_of(name)(value), field), value)

    def test_what_is_kept_has_not_been_changed(self):
        for name, field in FIELDS.items():
            for value in odd_values():
                before = repr(value)
                error = class_of(name)(value)
                self.assertEqual(repr(value), before, name)
                self.assertEqual(repr(getattr(error, field)), before, name)

    def test_a_change_of_the_object_is_seen(self):
        for name, field in FIELDS.items():
            value = {"kept": []}
            error = class_of(name)(value)
            value["kept"].append(1)
            self.assertEqual(getattr(error, field), {"kept": [1]}, name)

    def test_each_object_has_its_own_field(self):
        for name, field in FIELDS.items():
            one, other = class_of(name)([1]), class_of(name)([2])
            self.assertEqual([getattr(one, field), getattr(other, field)], [[1], [2]], name)

    def test_an_error_can_be_kept_in_an_error(self):
        inner = errors.NoCommand()
        for name, field in FIELDS.items():
            self.assertIs(getattr(class_of(name)(inner), field), inner, name)

    def test_no_command_is_made_without_arguments(self):
        self.assertIsInstance(errors.NoCommand(), errors.StoreError)


class TestRaised(unittest.TestCase):
    def test_each_is_caught_by_its_own_name_with_its_field(self):
        for name, field in FIELDS.items():
            value = [name]
            with self.assertRaises(class_of(name)) as caught:
                raise class_of(name)(value)
            self.assertIs(getattr(caught.exception, field), value)

    def test_each_is_caught_as_store_error_and_as_value_error(self):
        for kind in (errors.StoreError, ValueError):
            for name in FIELDS:
                with self.subTest(name, kind=kind), self.assertRaises(kind):
                    raise class_of(name)(None)
            with self.assertRaises(kind):
                raise errors.NoCommand()
            with self.assertRaises(kind):
                raise errors.StoreError()


if __name__ == "__main__":
    unittest.main()
