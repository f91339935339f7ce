import unittest

from tablefolk import errors

NAMES = ["NoTable", "NoFolk", "NoElement", "NoPart", "NotLoose", "TooLarge", "NoNote"]


class Errors(unittest.TestCase):
    def test_any_refusal_is_a_value_error(self):
        self.assertEqual(errors.FolkError.__bases__, (ValueError,))

    def test_each_stands_straight_beneath_folk_error(self):
        for name in NAMES:
            self.assertEqual(getattr(errors, name).__bases__, (errors.FolkError,), name)
            self.assertEqual(getattr(errors, name).__name__, name)

    def test_none_stands_beneath_another(self):
        for name in NAMES:
            for other in NAMES:
                below = issubclass(getattr(errors, name), getattr(errors, other))
                self.assertEqual(below, name == other, (name, other))


if __name__ == "__main__":
    unittest.main()
