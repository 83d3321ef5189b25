"""Points 8 and 9: the greatest share of every wish, its line and its plan."""

import math
import unittest
from fractions import Fraction

from cisternyard.lines import water_above, wishes_above
from cisternyard.shares import share, share_plan
from cisternyard.yard import Yard
from helper import Numbers, above_line, every_line, keeps_to_point_5, sample, samples


class ShareCase(unittest.TestCase):
    def fraction(self, told):
        """A fraction as told, if it is told as point 9 asks."""
        self.assertIs(type(told), tuple)
        self.assertEqual([type(number) for number in told], [int, int])
        top, bottom = told
        self.assertGreaterEqual(top, 0)
        self.assertGreaterEqual(bottom, 1)
        self.assertEqual(math.gcd(top, bottom), 1)
        return Fraction(top, bottom)

    def assert_line(self, yard, days, part, line):
        """The line lets no plan draw a greater share."""
        self.assertIs(type(line), list)
        self.assertGreater(wishes_above(yard, days, line), 0)
        self.assertEqual(part * wishes_above(yard, days, line), water_above(yard, days, line))
        water, wishes = above_line(yard.rooms(), yard.waters(), days, line)
        self.assertEqual(part * wishes, water)

    def assert_plan(self, yard, days, part):
        """The plan draws the share."""
        told = share_plan(yard, days)
        self.assertIs(type(told), list)
        self.assertEqual(len(told), len(days))
        plan = []
        for pair in told:
            self.assertIs(type(pair), tuple)
            self.assertEqual([type(numbers) for numbers in pair], [list, list])
            self.assertEqual([len(numbers) for numbers in pair], [len(yard.rooms())] * 2)
            plan.append(tuple([self.fraction(number) for number in numbers] for numbers in pair))
        self.assertTrue(keeps_to_point_5(yard.rooms(), yard.waters(), days, plan))
        for (rain, wishes), (drawn, kept) in zip(days, plan):
            self.assertEqual(drawn, [part * wish for wish in wishes])

    def assert_told_well(self, yard, days):
        told = share(yard, days)
        self.assertIs(type(told), tuple)
        self.assertEqual(len(told), 2)
        part = self.fraction(told[0])
        self.assertLessEqual(part, 1)
        if part == 1:
            self.assertIsNone(told[1])
        else:
            self.assert_line(yard, days, part, told[1])
        self.assert_plan(yard, days, part)
        return told[0]

    def assert_share(self, rooms, waters, days, fraction):
        self.assertEqual(self.assert_told_well(Yard(rooms, waters), days), fraction)


class ByHand(ShareCase):
    def test_no_day_at_all(self):
        for tanks in range(1, 5):
            yard = Yard([9] * tanks, [4] * tanks)
            self.assertEqual(share(yard, []), ((1, 1), None))
            self.assertEqual(share_plan(yard, []), [])

    def test_wishes_all_nought(self):
        self.assertEqual(share(Yard([9, 9], [4, 4]), [([5, 5], [0, 0])] * 3), ((1, 1), None))
        self.assert_share([9, 9], [4, 4], [([5, 5], [0, 0])] * 3, (1, 1))
        self.assert_share([0, 0], [0, 0], [([0, 0], [0, 0])] * 3, (1, 1))

    def test_all_wishes_just_met(self):
        self.assertEqual(share(Yard([9], [3]), [([2], [5])]), ((1, 1), None))
        self.assert_share([9], [3], [([2], [5])], (1, 1))

    def test_more_than_is_wished(self):
        self.assert_share([9], [9], [([30], [5])] * 2, (1, 1))

    def test_one_too_little(self):
        self.assert_share([9], [3], [([2], [6])], (5, 6))

    def test_a_share_of_nought(self):
        self.assert_share([9], [0], [([0], [7])], (0, 1))
        self.assert_share([9, 9], [0, 9], [([0, 30], [1, 1])] * 3, (0, 1))
        self.assert_share([0, 0], [0, 0], [([9, 9], [9, 9]), ([0, 0], [0, 3])], (0, 1))

    def test_lowest_terms(self):
        self.assert_share([9], [2], [([0], [4])], (1, 2))
        self.assert_share([9], [6], [([0], [9])], (2, 3))
        self.assert_share([50], [24], [([0], [30])], (4, 5))

    def test_water_of_an_upper_tank_falls_to_a_lower_one(self):
        self.assert_share([9, 9], [6, 0], [([0, 0], [5, 7])], (1, 2))

    def test_water_of_a_lower_tank_does_not_help_an_upper_one(self):
        self.assert_share([9, 9], [1, 9], [([0, 0], [3, 3])], (1, 3))

    def test_a_room_that_binds_over_a_night(self):
        self.assert_share([3], [0], [([30], [0]), ([0], [5])], (3, 5))

    def test_a_share_that_only_a_line_that_goes_to_and_fro_gives(self):
        rooms = [5, 1, 1]
        waters = [5, 0, 1]
        days = [([1, 0, 2], [2, 3, 0]), ([1, 1, 1], [2, 3, 4]), ([0, 3, 2], [4, 2, 1])]
        yard = Yard(rooms, waters)
        self.assertEqual(share(yard, days), ((5, 9), [2, 3, 1]))
        self.assert_share(rooms, waters, days, (5, 9))
        for tanks in range(1, 4):
            line = [tanks] * 3
            self.assertGreater(Fraction(water_above(yard, days, line), wishes_above(yard, days, line)), Fraction(5, 9))

    def test_drawn_and_kept_may_be_fractions(self):
        plan = share_plan(Yard([5], [0]), [([5], [4]), ([0], [4])])
        self.assertEqual(plan[0], ([(5, 2)], [(5, 2)]))
        self.assertEqual(plan[1][0], [(5, 2)])

    def test_a_yard_on_which_days_have_gone_by(self):
        yard = Yard([9], [0])
        days = [([0], [9])]
        self.assertEqual(self.assert_told_well(yard, days), (0, 1))
        yard.day([7], [1])
        self.assertEqual(self.assert_told_well(yard, days), (2, 3))

    def test_arguments_by_name(self):
        yard = Yard([9], [2])
        self.assertEqual(share(days=[([0], [4])], yard=yard)[0], (1, 2))
        self.assertEqual(share_plan(days=[([0], [4])], yard=yard)[0][0], [(2, 1)])


class AgainstAllLines(ShareCase):
    def test_no_line_lets_less_through(self):
        numbers = Numbers(31)
        seen = set()
        for turn in range(250):
            tanks = 1 + numbers.upto(3)
            count = 1 + numbers.upto(3)
            yard, days = sample(numbers, tanks, count, numbers.one_of((2, 9, 50)), numbers.one_of((3, 9)), 9)
            parts = [Fraction(1)]
            for line in every_line(tanks, count):
                water, wishes = above_line(yard.rooms(), yard.waters(), days, line)
                if wishes > 0:
                    parts.append(Fraction(water, wishes))
            told = self.assert_told_well(yard, days)
            self.assertEqual(self.fraction(told), min(parts))
            seen.add(told)
        # So that the sample is known to hold shares of every sort.
        self.assertIn((0, 1), seen)
        self.assertIn((1, 1), seen)
        self.assertGreater(len(seen), 50)


class ManyYards(ShareCase):
    def test_many_yards(self):
        for yard, days in samples(32, 800):
            self.assert_told_well(yard, days)

    def test_four_tanks_and_eight_days_up_to_the_bounds(self):
        numbers = Numbers(33)
        for turn in range(100):
            yard, days = sample(numbers, 4, 8, 50, numbers.one_of((10, 20, 30)), 30)
            self.assert_told_well(yard, days)

    def test_the_greatest_numbers(self):
        full = [30] * 4
        none = [0] * 4
        self.assert_share([50] * 4, [50] * 4, [(list(full), list(full)) for day in range(8)], (1, 1))
        self.assert_share([50] * 4, [50] * 4, [(list(none), list(full)) for day in range(8)], (5, 24))
        self.assert_share([50] * 4, [49] * 4, [(list(none), list(full)) for day in range(8)], (49, 240))
        self.assert_share([0] * 4, [0] * 4, [([29] * 4, list(full)) for day in range(8)], (29, 30))


if __name__ == "__main__":
    unittest.main()
