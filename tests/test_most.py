"""Point 7: the most that can be drawn, its line and its plan."""

import functools
import itertools
import unittest

from cisternyard.lines import water_above, wishes_above
from cisternyard.plans import best_plan, drawn_by, holds, most
from cisternyard.yard import Yard
from helper import Numbers, above_line, by_themselves, every_line, keeps_to_point_5, sample, samples


def most_of_all_plans(rooms, waters, days):
    """The most drawn, all plans that hold gone through one by one."""

    @functools.lru_cache(maxsize=None)
    def from_day(day, lying):
        return 0 if day == len(days) else from_tank(day, lying, (), 0)

    @functools.lru_cache(maxsize=None)
    def from_tank(day, lying, kept, falling):
        tank = len(kept)
        if tank == len(rooms):
            return from_day(day + 1, kept)
        there = falling + lying[tank] + days[day][0][tank]
        found = 0
        for draw in range(min(there, days[day][1][tank]) + 1):
            for keep in range(min(there - draw, rooms[tank]) + 1):
                found = max(found, draw + from_tank(day, lying, kept + (keep,), there - draw - keep))
        return found

    return from_day(0, tuple(waters))


class MostCase(unittest.TestCase):
    def assert_told_well(self, yard, days):
        """The plan told draws the number told, and the line told lets no plan draw more."""
        told = most(yard, days)
        self.assertIsInstance(told, tuple)
        self.assertEqual(len(told), 2)
        number, line = told
        self.assertIs(type(number), int)
        self.assertIsInstance(line, list)
        wished = sum(sum(wishes) for rain, wishes in days)
        below = wished - wishes_above(yard, days, line)
        self.assertEqual(water_above(yard, days, line) + below, number)
        water, wishes = above_line(yard.rooms(), yard.waters(), days, line)
        self.assertEqual(water + wished - wishes, number)
        plan = best_plan(yard, days)
        self.assertIs(holds(yard, days, plan), True)
        self.assertTrue(keeps_to_point_5(yard.rooms(), yard.waters(), days, plan))
        self.assertEqual(drawn_by(plan), number)
        self.assertEqual(sum(sum(drawn) for drawn, kept in plan), number)
        for pair in plan:
            self.assertIsInstance(pair, tuple)
            self.assertEqual([type(number) for numbers in pair for number in numbers], [int] * 2 * len(yard.rooms()))
        return number

    def assert_most(self, rooms, waters, days, number):
        self.assertEqual(self.assert_told_well(Yard(rooms, waters), days), number)


class ByHand(MostCase):
    def test_no_day_at_all(self):
        for tanks in range(1, 5):
            yard = Yard([9] * tanks, [4] * tanks)
            self.assertEqual(most(yard, []), (0, []))
            self.assertEqual(best_plan(yard, []), [])

    def test_no_wishes(self):
        self.assert_most([9, 9], [4, 4], [([5, 5], [0, 0])] * 3, 0)

    def test_no_water(self):
        self.assert_most([9, 9], [0, 0], [([0, 0], [5, 5])] * 3, 0)

    def test_all_wishes_can_be_met(self):
        self.assert_most([9, 9], [9, 9], [([5, 5], [3, 4])] * 3, 21)

    def test_all_water_can_be_drawn(self):
        self.assert_most([9, 9], [2, 3], [([1, 0], [30, 30])] * 3, 8)

    def test_valves_give_more_than_the_days_by_themselves(self):
        yard = Yard([9, 9], [9, 0])
        days = [([0, 0], [0, 9])]
        self.assertEqual(drawn_by(by_themselves(yard, days)), 0)
        self.assert_most([9, 9], [9, 0], days, 9)

    def test_nothing_runs_up(self):
        self.assert_most([9, 9], [0, 9], [([0, 9], [9, 0])] * 2, 0)

    def test_rooms_of_nought(self):
        self.assert_most([0, 0], [0, 0], [([6, 0], [1, 2]), ([0, 0], [9, 9]), ([0, 3], [9, 1])], 3 + 0 + 1)

    def test_rain_only_on_the_first_day(self):
        self.assert_most([4, 3], [0, 0], [([20, 0], [1, 1]), ([0, 0], [0, 0]), ([0, 0], [9, 9])], 2 + 7)

    def test_rain_only_on_the_last_day(self):
        self.assert_most([4, 3], [1, 0], [([0, 0], [0, 5]), ([0, 0], [5, 5]), ([20, 0], [4, 4])], 1 + 8)

    def test_what_lies_low_is_drawn_low_and_what_lies_high_is_left_for_above(self):
        self.assert_most([5, 5], [5, 5], [([0, 0], [0, 5]), ([0, 0], [5, 0])], 10)

    def test_what_has_no_room_above_falls_and_stays_below(self):
        self.assert_most([2, 5], [2, 0], [([6, 0], [0, 0]), ([0, 0], [2, 5])], 7)

    def test_a_yard_on_which_days_have_gone_by(self):
        yard = Yard([5, 5], [0, 0])
        days = [([0, 0], [5, 5])]
        self.assertEqual(self.assert_told_well(yard, days), 0)
        yard.day([4, 2], [0, 0])
        self.assertEqual(self.assert_told_well(yard, days), 6)

    def test_arguments_by_name(self):
        yard = Yard([5], [3])
        self.assertEqual(most(days=[([0], [9])], yard=yard)[0], 3)
        self.assertEqual(drawn_by(best_plan(days=[([0], [9])], yard=yard)), 3)


class AgainstAllPlans(MostCase):
    def test_every_small_yard_of_one_tank_and_two_days(self):
        for room in range(3):
            for water in range(room + 1):
                for numbers in itertools.product(range(3), repeat=4):
                    days = [([numbers[0]], [numbers[1]]), ([numbers[2]], [numbers[3]])]
                    self.assert_most([room], [water], days, most_of_all_plans([room], [water], days))

    def test_some_small_yards(self):
        numbers = Numbers(21)
        for tanks, count, many in ((2, 2, 200), (2, 4, 100), (3, 2, 100), (3, 3, 60), (4, 2, 40), (4, 3, 20)):
            for turn in range(many):
                yard, days = sample(numbers, tanks, count, 2, 2, 3)
                self.assert_most(
                    yard.rooms(), yard.waters(), days, most_of_all_plans(yard.rooms(), yard.waters(), days)
                )


class AgainstAllLines(MostCase):
    def test_no_line_gives_less(self):
        numbers = Numbers(22)
        for turn in range(150):
            tanks = 1 + numbers.upto(3)
            count = numbers.upto(4)
            yard, days = sample(numbers, tanks, count, numbers.one_of((2, 9, 50)), 9, 9)
            wished = sum(sum(wishes) for rain, wishes in days)
            number = self.assert_told_well(yard, days)
            sums = []
            for line in every_line(tanks, count):
                water, wishes = above_line(yard.rooms(), yard.waters(), days, line)
                sums.append(water + wished - wishes)
            self.assertEqual(min(sums), number)


class ManyYards(MostCase):
    def test_many_yards(self):
        for yard, days in samples(23, 1500):
            number = self.assert_told_well(yard, days)
            self.assertGreaterEqual(number, drawn_by(by_themselves(yard, days)))

    def test_four_tanks_and_eight_days_up_to_the_bounds(self):
        numbers = Numbers(24)
        for turn in range(200):
            yard, days = sample(numbers, 4, 8, 50, 30, 30)
            self.assert_told_well(yard, days)

    def test_the_greatest_numbers(self):
        full = [30] * 4
        none = [0] * 4
        self.assert_most([50] * 4, [50] * 4, [(list(full), list(full)) for day in range(8)], 960)
        self.assert_most([50] * 4, [50] * 4, [(list(none), list(full)) for day in range(8)], 200)
        self.assert_most([50] * 4, [0] * 4, [(list(full), list(none)) for day in range(8)], 0)
        days = [(list(full), list(none)) for day in range(4)] + [(list(none), list(full)) for day in range(4)]
        self.assert_most([50] * 4, [0] * 4, days, 200)


if __name__ == "__main__":
    unittest.main()
