import unittest

from screenlines import errors

NAMES = ("NoScreen", "NoOrder", "NoRoom", "NoNumber", "NoTable", "NoTask", "NoText", "NoBack")


class TestErrors(unittest.TestCase):
    def test_line_error_is_a_value_error(self):
        self.assertTrue(issubclass(errors.LineError, ValueError))

    def test_each_refusal_stands_under_line_error_alone(self):
        for name in NAMES:
            self.assertEqual(getattr(errors, name).__bases__, (errors.LineError,), name)

    def test_none_stands_under_another(self):
        for one in NAMES:
            for other in NAMES:
                if one != other:
                    self.assertFalse(issubclass(getattr(errors, one), getattr(errors, other)), (one, other))

    def test_each_has_its_own_name(self):
        self.assertEqual([getattr(errors, name).__name__ for name in NAMES], list(NAMES))


if __name__ == "__main__":
    unittest.main()
