"""The errors: their attributes and their places."""

import unittest

from livingroll import errors

WITH_ATTRIBUTE = {
    "InvalidSetting": "field",
    "InvalidSaying": "saying",
    "InvalidLetter": "reason",
    "InvalidPlan": "index",
    "InvalidKey": "key",
    "InvalidLine": "line",
    "UnknownSeat": "seat",
    "UnknownKey": "key",
    "DeedRefused": "deed",
    "TooMuch": "limit",
}
WITHOUT_ATTRIBUTE = ("NoBook", "NothingToUndo", "NothingToRedo")


def all_classes():
    return [getattr(errors, name) for name in (*WITH_ATTRIBUTE, *WITHOUT_ATTRIBUTE)]


class Errors(unittest.TestCase):
    def test_the_attribute_is_what_the_constructor_took(self):
        for name, attribute in WITH_ATTRIBUTE.items():
            for value in ("bits", 3, ("put", 1, "a"), None, [1], 10 ** 5000):
                with self.subTest(name=name, attribute=attribute):
                    error = getattr(errors, name)(value)
                    self.assertEqual({attribute: value}, vars(error))
                    self.assertIs(value, getattr(error, attribute))

    def test_the_attribute_has_the_name_of_the_argument(self):
        for name, attribute in WITH_ATTRIBUTE.items():
            with self.subTest(name=name):
                error = getattr(errors, name)(**{attribute: "told"})
                self.assertEqual("told", getattr(error, attribute))

    def test_exactly_one_argument_is_taken(self):
        for name in WITH_ATTRIBUTE:
            with self.subTest(name=name):
                self.assertRaises(TypeError, getattr(errors, name))
                self.assertRaises(TypeError, getattr(errors, name), 1, 2)

    def test_three_errors_have_no_attributes(self):
        for name in WITHOUT_ATTRIBUTE:
            with self.subTest(name=name):
                self.assertEqual({}, vars(getattr(errors, name)()))

    def test_each_is_a_group_error_and_a_value_error(self):
        self.assertTrue(issubclass(errors.GroupError, ValueError))
        for error in all_classes():
            with self.subTest(error=error):
                self.assertTrue(issubclass(error, errors.GroupError))
                self.assertTrue(issubclass(error, ValueError))
                self.assertIsNot(error, errors.GroupError)

    def test_none_is_a_base_class_of_another(self):
        self.assertEqual(13, len(all_classes()))
        for one in all_classes():
            for other in all_classes():
                with self.subTest(one=one, other=other):
                    self.assertEqual(one is other, issubclass(one, other))

    def test_each_can_be_raised_and_caught_by_its_name(self):
        for name, attribute in WITH_ATTRIBUTE.items():
            error = getattr(errors, name)
            with self.subTest(name=name):
                with self.assertRaises(error) as caught:
                    raise error(("a", 1))
                self.assertEqual(("a", 1), getattr(caught.exception, attribute))
