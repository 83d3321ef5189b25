"""Point 6: lines, and the water and the wishes above them."""

import itertools
import unittest

from cisternyard.errors import BadDays, BadLine
from cisternyard.lines import water_above, wishes_above
from cisternyard.yard import Yard
from helper import Numbers, above_line, assert_refused, every_line, samples, spoilt

ROOMS = [10, 4, 7]
WATERS = [5, 4, 0]
DAYS = [([1, 2, 3], [4, 5, 6]), ([7, 8, 9], [1, 0, 2]), ([2, 0, 1], [3, 3, 3]), ([0, 6, 5], [9, 8, 7])]


class ByHand(unittest.TestCase):
    def assert_above(self, line, water, wishes):
        yard = Yard(ROOMS, WATERS)
        self.assertEqual(water_above(yard, DAYS, line), water)
        self.assertEqual(wishes_above(yard, DAYS, line), wishes)

    def test_nothing_above(self):
        self.assert_above([0, 0, 0, 0], 0, 0)

    def test_all_above(self):
        self.assert_above([3, 3, 3, 3], (5 + 4 + 0) + 6 + 24 + 3 + 11, 15 + 3 + 9 + 24)

    def test_the_same_tanks_above_on_every_day(self):
        self.assert_above([1, 1, 1, 1], 5 + 1 + 7 + 2 + 0, 4 + 1 + 3 + 9)
        self.assert_above([2, 2, 2, 2], (5 + 4) + 3 + 15 + 2 + 6, 9 + 1 + 6 + 17)

    def test_a_line_that_goes_down_the_slope(self):
        self.assert_above([0, 1, 2, 3], 10 + 7 + 4 + 2 + 7 + 11, 0 + 1 + 6 + 24)

    def test_a_line_that_goes_up_the_slope(self):
        self.assert_above([3, 2, 1, 0], (5 + 4 + 0) + 6 + 15 + 2, 15 + 1 + 3 + 0)

    def test_a_line_that_goes_to_and_fro(self):
        self.assert_above([1, 3, 0, 2], 5 + 1 + (4 + 7) + 24 + (10 + 4) + 6, 4 + 3 + 0 + 17)
        self.assert_above([2, 0, 2, 0], (5 + 4) + 3 + (10 + 4) + 2, 9 + 6)

    def test_the_first_day_counts_the_water_and_no_room(self):
        yard = Yard([50], [1])
        self.assertEqual(water_above(yard, [([2], [0])], [1]), 3)
        self.assertEqual(water_above(yard, [([2], [0]), ([4], [0])], [1, 1]), 7)

    def test_a_later_day_counts_the_room_and_no_water(self):
        yard = Yard([50], [1])
        self.assertEqual(water_above(yard, [([2], [0]), ([4], [0])], [0, 1]), 54)

    def test_no_day_at_all(self):
        for tanks in range(1, 5):
            yard = Yard([9] * tanks, [4] * tanks)
            self.assertEqual(water_above(yard, [], []), 0)
            self.assertEqual(wishes_above(yard, [], []), 0)

    def test_arguments_by_name(self):
        yard = Yard([9], [4])
        self.assertEqual(water_above(line=[1], days=[([2], [3])], yard=yard), 6)
        self.assertEqual(wishes_above(line=[1], days=[([2], [3])], yard=yard), 3)

    def test_whole_numbers_are_told(self):
        yard = Yard(ROOMS, WATERS)
        for line in ([0, 0, 0, 0], [1, 3, 0, 2]):
            self.assertIs(type(water_above(yard, DAYS, line)), int)
            self.assertIs(type(wishes_above(yard, DAYS, line)), int)

    def test_a_yard_on_which_days_have_gone_by(self):
        yard = Yard(ROOMS, WATERS)
        yard.day([9, 0, 0], [0, 1, 0])
        yard.day([0, 0, 2], [3, 0, 0])
        self.assertEqual(yard.waters(), [7, 4, 5])
        self.assertEqual(water_above(yard, DAYS, [3, 0, 0, 0]), (7 + 4 + 5) + 6)
        self.assertEqual(water_above(yard, DAYS, [0, 2, 2, 2]), (10 + 4) + 15 + 2 + 6)
        self.assertEqual(wishes_above(yard, DAYS, [3, 0, 0, 0]), 15)

    def test_the_greatest_numbers(self):
        yard = Yard([50] * 4, [50] * 4)
        days = [([30] * 4, [30] * 4) for day in range(8)]
        self.assertEqual(water_above(yard, days, [4] * 8), 200 + 8 * 120)
        self.assertEqual(wishes_above(yard, days, [4] * 8), 8 * 120)
        self.assertEqual(water_above(yard, days, [4, 0] * 4), 4 * 200 + 4 * 120)
        self.assertEqual(water_above(yard, days, [0, 4] * 4), 4 * 200 + 4 * 120)


class ManyLines(unittest.TestCase):
    def assert_as_told(self, yard, days, line):
        told = (water_above(yard, days, line), wishes_above(yard, days, line))
        self.assertEqual(told, above_line(yard.rooms(), yard.waters(), days, line))

    def test_every_line_of_some_days(self):
        yard = Yard(ROOMS, WATERS)
        for count in range(5):
            for line in every_line(3, count):
                self.assert_as_told(yard, DAYS[:count], line)

    def test_some_lines_of_many_yards(self):
        numbers = Numbers(3)
        for yard, days in samples(1, 300):
            for turn in range(5):
                self.assert_as_told(yard, days, [numbers.upto(len(yard.rooms())) for day in days])


class NoPlanDrawsMore(unittest.TestCase):
    def test_above_a_line_no_plan_draws_more_than_the_water_above_it(self):
        rooms = [2, 1]
        waters = [1, 1]
        days = [([1, 0], [1, 2]), ([0, 1], [2, 2])]
        yard = Yard(rooms, waters)
        lines = [(line, water_above(yard, days, line)) for line in every_line(2, 2)]
        drawn_plans = set()
        for first, first_kept in every_day(rooms, waters, days[0]):
            for second, second_kept in every_day(rooms, first_kept, days[1]):
                drawn_plans.add((tuple(first), tuple(second)))
        for drawn, (line, water) in itertools.product(sorted(drawn_plans), lines):
            self.assertLessEqual(sum(drawn[0][:line[0]]) + sum(drawn[1][:line[1]]), water)


def every_day(rooms, lying, day):
    """Every pair of drawn and kept with which this day holds."""
    pairs = [([], [], 0)]
    for tank, room in enumerate(rooms):
        longer = []
        for drawn, kept, falling in pairs:
            there = falling + lying[tank] + day[0][tank]
            for draw in range(min(there, day[1][tank]) + 1):
                for keep in range(min(there - draw, room) + 1):
                    longer.append((drawn + [draw], kept + [keep], there - draw - keep))
        pairs = longer
    return [(drawn, kept) for drawn, kept, falling in pairs]


class RefusedLines(unittest.TestCase):
    def refused(self, kind, days, line):
        for call in (water_above, wishes_above):
            yard = Yard(ROOMS, WATERS)
            assert_refused(self, kind, lambda days, line: call(yard, days, line), days, line)
            self.assertEqual((yard.rooms(), yard.waters()), (ROOMS, WATERS))

    def test_longer_or_shorter_than_the_days(self):
        for count in range(5):
            for length in range(10):
                if length != count:
                    self.refused(BadLine, DAYS[:count], [0] * length)
                    self.refused(BadLine, DAYS[:count], [3] * length)

    def test_a_number_that_is_not_so(self):
        for wrong in (-1, -2, -1000, 4, 5, 30, 1000, 10 ** 30, -10 ** 30):
            for line in spoilt([3, 0, 1, 2], wrong):
                self.refused(BadLine, DAYS, line)

    def test_all_tanks_is_the_greatest_number_for_every_yard(self):
        for tanks in range(1, 5):
            yard = Yard([9] * tanks, [4] * tanks)
            days = [([1] * tanks, [2] * tanks)]
            self.assertEqual(water_above(yard, days, [tanks]), 5 * tanks)
            for call in (water_above, wishes_above):
                assert_refused(self, BadLine, call, yard, days, [tanks + 1])
                assert_refused(self, BadLine, call, yard, days, [-1])

    def test_true_and_false_are_no_whole_numbers(self):
        self.refused(BadLine, DAYS, [1, True, 1, 1])
        self.refused(BadLine, DAYS, [1, 1, 1, False])

    def test_not_a_list(self):
        for line in ((1, 1, 1, 1), None, 1, "1111"):
            self.refused(BadLine, DAYS, line)

    def test_the_days_are_refused_first(self):
        nine = [DAYS[0]] * 9
        wrong_days = (nine, DAYS[:3] + [([0, 6, 31], [9, 8, 7])], [([1, 2], [4, 5, 6])] + DAYS[1:])
        for days in wrong_days:
            self.refused(BadDays, days, [0] * len(days))
            self.refused(BadDays, days, [])
            self.refused(BadDays, days, [4] * len(days))
            self.refused(BadDays, days, [-1] * len(days))
            self.refused(BadDays, days, [0] * 10)


if __name__ == "__main__":
    unittest.main()
