import unittest

from blockkeep import errors

NAMES = [
    "BadRow", "NoBlock", "Stopped", "BadDisk", "NoRoom", "TooMuch", "BadLog", "NoNode", "NoNodes", "TooLong",
    "OutOfPlace", "BadName", "BadPath", "NotFolder", "NotFile", "NoName", "NameThere", "NotEmpty", "Within",
    "BadOrder",
]


class ErrorsTest(unittest.TestCase):
    def test_keep_error_stands_straight_under_value_error(self):
        self.assertEqual(errors.KeepError.__bases__, (ValueError,))

    def test_each_of_the_twenty_stands_straight_under_keep_error(self):
        self.assertEqual(len(set(NAMES)), 20)
        for name in NAMES:
            with self.subTest(name=name):
                self.assertEqual(getattr(errors, name).__bases__, (errors.KeepError,))
                self.assertEqual(getattr(errors, name).__name__, name)

    def test_none_stands_under_another(self):
        for name in NAMES:
            for other in NAMES:
                with self.subTest(name=name, other=other):
                    under = issubclass(getattr(errors, name), getattr(errors, other))
                    self.assertIs(under, name == other)

    def test_no_other_error_class_is_there(self):
        found = [
            name for name, thing in vars(errors).items()
            if isinstance(thing, type) and issubclass(thing, Exception)
        ]
        self.assertEqual(sorted(found), sorted(NAMES + ["KeepError"]))

    def test_each_is_raised_and_taken_by_its_name(self):
        for name in NAMES:
            with self.subTest(name=name):
                with self.assertRaises(getattr(errors, name)):
                    raise getattr(errors, name)("so")


if __name__ == "__main__":
    unittest.main()
