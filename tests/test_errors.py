import unittest

from cisternyard.errors import YardError
from helper import KINDS


class Errors(unittest.TestCase):
    def test_yard_error_stands_under_value_error(self):
        self.assertEqual(YardError.__bases__, (ValueError,))

    def test_each_refusal_stands_under_yard_error(self):
        for kind in KINDS:
            self.assertTrue(issubclass(kind, YardError))

    def test_no_refusal_stands_under_another(self):
        for kind in KINDS:
            under = [other for other in KINDS if issubclass(kind, other)]
            self.assertEqual(under, [kind])

    def test_the_names(self):
        names = [kind.__name__ for kind in (YardError,) + KINDS]
        self.assertEqual(names, ["YardError", "BadYard", "BadDays", "BadLine", "BadText"])


if __name__ == "__main__":
    unittest.main()
