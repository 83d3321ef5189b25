"""Point 3: days, as the files that take several of them at once need them."""

import unittest

from cisternyard.errors import BadDays
from cisternyard.parts import check_days
from helper import assert_refused, spoilt


class Days(unittest.TestCase):
    def test_none_to_eight_days(self):
        for tanks in range(1, 5):
            for count in range(9):
                days = [([0] * tanks, [30] * tanks) for day in range(count)]
                self.assertIsNone(check_days(tanks, days))
                self.assertEqual(days, [([0] * tanks, [30] * tanks)] * count)

    def test_more_days(self):
        for count in (9, 10, 100):
            assert_refused(self, BadDays, check_days, 1, [([0], [0])] * count)

    def test_a_day_that_is_no_pair(self):
        for day in ((), ([0],), ([0], [0], [0]), [[0], [0]]):
            assert_refused(self, BadDays, check_days, 1, [([0], [0]), day])

    def test_a_wrong_list_in_any_day(self):
        right = ([5, 5], [5, 5])
        wrong_lists = [[], [5], [5, 5, 5]] + spoilt([5, 5], -1) + spoilt([5, 5], 31) + spoilt([5, 5], True)
        for wrong in wrong_lists:
            for day in ((wrong, [5, 5]), ([5, 5], wrong)):
                for days in spoilt([right, right, right], day):
                    assert_refused(self, BadDays, check_days, 2, days)


if __name__ == "__main__":
    unittest.main()
