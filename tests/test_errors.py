"""The ten errors and their base."""

import unittest

from halfbuilt import errors
from tests.samples import ODD_VALUES

WITH_ATTRIBUTE = {
    "BadSchema": "name", "BadGraph": "name", "NoName": "name", "BadRoots": "index",
    "BadStream": "index", "BadEdit": "at", "BadJournal": "row", "BadText": "row",
}
FROM_MESSAGE = ("NotSound", "NoOrder")


class ErrorsTest(unittest.TestCase):
    def check_classes(self, error, name):
        own = getattr(errors, name)
        self.assertIs(type(error), own)
        self.assertEqual(own.__bases__, (errors.BuildError,))
        for caught in (own, errors.BuildError, ValueError):
            with self.assertRaises(caught):
                raise error

    def test_base(self):
        self.assertEqual(errors.BuildError.__bases__, (ValueError,))
        self.assertEqual(str(errors.BuildError("why")), "why")
        with self.assertRaises(ValueError):
            raise errors.BuildError("why")

    def test_ten_direct_subclasses(self):
        names = sorted(one.__name__ for one in errors.BuildError.__subclasses__())
        self.assertEqual(names, sorted([*WITH_ATTRIBUTE, *FROM_MESSAGE]))
        self.assertEqual(len(names), 10)

    def test_no_error_catches_another(self):
        names = [*WITH_ATTRIBUTE, *FROM_MESSAGE]
        for one in names:
            for other in names:
                self.assertEqual(issubclass(getattr(errors, one), getattr(errors, other)), one == other)

    def test_from_message(self):
        for name in FROM_MESSAGE:
            error = getattr(errors, name)("why it is so")
            self.assertEqual(str(error), "why it is so")
            self.check_classes(error, name)

    def test_by_position(self):
        for name, attribute in WITH_ATTRIBUTE.items():
            for value in ["box", 3, *ODD_VALUES]:
                error = getattr(errors, name)(value)
                self.assertEqual(getattr(error, attribute), value)
                self.assertIs(type(getattr(error, attribute)), type(value))
                self.check_classes(error, name)

    def test_by_name(self):
        for name, attribute in WITH_ATTRIBUTE.items():
            for value in ["box", 3, *ODD_VALUES]:
                error = getattr(errors, name)(**{attribute: value})
                self.assertEqual(getattr(error, attribute), value)
                self.check_classes(error, name)

    def test_wrong_arguments(self):
        for name in WITH_ATTRIBUTE:
            with self.assertRaises(TypeError):
                getattr(errors, name)()
            with self.assertRaises(TypeError):
                getattr(errors, name)(1, 2)
            with self.assertRaises(TypeError):
                getattr(errors, name)(other=1)

    def test_message_is_a_string(self):
        for name in WITH_ATTRIBUTE:
            for value in ODD_VALUES:
                self.assertGreater(len(str(getattr(errors, name)(value))), 0)

    def test_arguments_are_copied(self):
        for name, attribute in WITH_ATTRIBUTE.items():
            value = [1, ({"a": [2]},)]
            error = getattr(errors, name)(value)
            value.append(3)
            value[1][0]["a"].append(4)
            self.assertEqual(getattr(error, attribute), [1, ({"a": [2]},)])


if __name__ == "__main__":
    unittest.main()
