"""Points 1 and 3: whole numbers within bounds, and days as the files that take several of them at once need them."""

import unittest

from cisternyard.errors import BadDays
from cisternyard.parts import are_whole, check_days, is_whole
from helper import assert_refused, spoilt


class WholeNumbers(unittest.TestCase):
    def test_from_nought_to_the_most(self):
        for value in (0, 1, 6, 7):
            self.assertIs(is_whole(value, 7), True)
        for value in (-1, 8, -10 ** 30, 10 ** 30):
            self.assertIs(is_whole(value, 7), False)

    def test_other_kinds(self):
        for value in (True, False, None, "5", 5.0, [5], (5,)):
            self.assertIs(is_whole(value, 7), False)

    def test_lists_of_them(self):
        self.assertIs(are_whole([], 7), True)
        self.assertIs(are_whole([0, 7], 7), True)
        for values in ([0, 8], [-1, 0], [0, None], (0, 7), None, 5, "55", {0: 7}):
            self.assertIs(are_whole(values, 7), False)


class Days(unittest.TestCase):
    def test_none_to_eight_days(self):
        for tanks in range(1, 5):
            for count in range(9):
                days = [([0] * tanks, [30] * tanks) for day in range(count)]
                self.assertIsNone(check_days(tanks, days))
                self.assertEqual(days, [([0] * tanks, [30] * tanks)] * count)

    def test_more_days(self):
        for count in (9, 10, 100):
            assert_refused(self, BadDays, check_days, 1, [([0], [0])] * count)

    def test_a_day_that_is_no_pair(self):
        for day in ((), ([0],), ([0], [0], [0]), [[0], [0]], None, "00", 0, (0, 0), ([0], (0,)), ((0,), [0])):
            assert_refused(self, BadDays, check_days, 1, [([0], [0]), day])

    def test_days_that_are_no_list(self):
        for days in ((([0], [0]),), (), None, 0, "", {}):
            assert_refused(self, BadDays, check_days, 1, days)

    def test_a_wrong_list_in_any_day(self):
        right = ([5, 5], [5, 5])
        wrong_lists = [[], [5], [5, 5, 5]] + spoilt([5, 5], -1) + spoilt([5, 5], 31) + spoilt([5, 5], True)
        for wrong in wrong_lists:
            for day in ((wrong, [5, 5]), ([5, 5], wrong)):
                for days in spoilt([right, right, right], day):
                    assert_refused(self, BadDays, check_days, 2, days)


if __name__ == "__main__":
    unittest.main()
