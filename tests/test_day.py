"""Points 1, 3 and 4: what a day of a yard is, and how it goes by."""

import itertools
import unittest

from cisternyard.errors import BadDays
from cisternyard.yard import Yard
from helper import assert_refused, spoilt


class OneDay(unittest.TestCase):
    def assert_day(self, yard, rain, wishes, drawn, off, waters):
        told = yard.day(rain, wishes)
        self.assertIsInstance(told, tuple)
        self.assertIsInstance(told[0], list)
        self.assertEqual(told, (drawn, off))
        self.assertEqual(yard.waters(), waters)

    def test_less_there_than_wished(self):
        self.assert_day(Yard([12], [3]), [2], [9], [5], 0, [0])

    def test_just_as_much_there_as_wished(self):
        self.assert_day(Yard([12], [3]), [2], [5], [5], 0, [0])

    def test_more_there_than_wished(self):
        self.assert_day(Yard([12], [3]), [2], [4], [4], 0, [1])

    def test_no_wish_and_no_rain(self):
        self.assert_day(Yard([12, 4], [3, 4]), [0, 0], [0, 0], [0, 0], 0, [3, 4])

    def test_room_left_just_filled_and_too_little(self):
        self.assert_day(Yard([12], [3]), [8], [0], [0], 0, [11])
        self.assert_day(Yard([12], [3]), [9], [0], [0], 0, [12])
        self.assert_day(Yard([12], [3]), [10], [0], [0], 1, [12])

    def test_drawn_before_the_room_binds(self):
        self.assert_day(Yard([5], [5]), [20], [18], [18], 2, [5])

    def test_overflow_stays_in_the_next_tank(self):
        self.assert_day(Yard([4, 10], [4, 1]), [6, 0], [0, 0], [0, 0], 0, [4, 7])

    def test_overflow_is_drawn_further_down_on_the_same_day(self):
        self.assert_day(Yard([4, 0, 10], [4, 0, 0]), [9, 0, 0], [0, 2, 5], [0, 2, 5], 0, [4, 0, 2])

    def test_overflow_runs_through_several_tanks(self):
        self.assert_day(Yard([1, 2, 3, 4], [1, 2, 3, 4]), [30, 0, 0, 0], [0, 0, 0, 7], [0, 0, 0, 7], 23, [1, 2, 3, 4])

    def test_overflow_gathers_on_its_way_down(self):
        self.assert_day(Yard([0, 0, 0], [0, 0, 0]), [3, 4, 5], [1, 1, 1], [1, 1, 1], 9, [0, 0, 0])

    def test_nothing_runs_up(self):
        self.assert_day(Yard([10, 1], [0, 1]), [0, 30], [5, 0], [0, 0], 30, [0, 1])

    def test_what_is_not_drawn_above_stays_above_while_there_is_room(self):
        self.assert_day(Yard([10, 10], [9, 0]), [1, 0], [0, 30], [0, 0], 0, [10, 0])

    def test_tank_without_room(self):
        self.assert_day(Yard([0], [0]), [7], [5], [5], 2, [0])
        self.assert_day(Yard([0], [0]), [5], [7], [5], 0, [0])
        self.assert_day(Yard([0, 50], [0, 0]), [30, 0], [0, 0], [0, 0], 0, [0, 30])

    def test_overflow_off_the_last_tank_alone(self):
        self.assert_day(Yard([50, 2], [0, 2]), [30, 1], [0, 0], [0, 0], 1, [30, 2])

    def test_edges_of_rain_and_wishes(self):
        for tanks in range(1, 5):
            none = [0] * tanks
            most = [30] * tanks
            self.assert_day(Yard([50] * tanks, none), none, none, none, 0, none)
            self.assert_day(Yard([50] * tanks, none), most, most, most, 0, none)
            self.assert_day(Yard([50] * tanks, none), most, none, none, 0, most)
            self.assert_day(Yard([50] * tanks, [50] * tanks), none, most, most, 0, [20] * tanks)
            self.assert_day(Yard([50] * tanks, [50] * tanks), most, none, none, 30 * tanks, [50] * tanks)

    def test_arguments_by_name(self):
        self.assertEqual(Yard([5], [0]).day(wishes=[2], rain=[9]), ([2], 2))

    def test_rooms_stay(self):
        yard = Yard([4, 0, 10], [4, 0, 0])
        yard.day([9, 0, 0], [0, 2, 5])
        self.assertEqual(yard.rooms(), [4, 0, 10])


class SeveralDays(unittest.TestCase):
    def test_the_waters_of_a_night_are_there_on_the_next_day(self):
        yard = Yard([5, 3], [2, 0])
        self.assertEqual(yard.day([6, 1], [1, 0]), ([1, 0], 0))
        self.assertEqual(yard.waters(), [5, 3])
        self.assertEqual(yard.day([0, 2], [2, 4]), ([2, 4], 0))
        self.assertEqual(yard.waters(), [3, 1])
        self.assertEqual(yard.day([10, 10], [0, 0]), ([0, 0], 16))
        self.assertEqual(yard.waters(), [5, 3])
        self.assertEqual(yard.day([0, 0], [30, 30]), ([5, 3], 0))
        self.assertEqual(yard.day([0, 0], [30, 30]), ([0, 0], 0))
        self.assertEqual(yard.waters(), [0, 0])

    def test_what_ran_off_does_not_come_back(self):
        yard = Yard([1], [0])
        self.assertEqual(yard.day([30], [0]), ([0], 29))
        self.assertEqual(yard.day([0], [30]), ([1], 0))

    def test_more_days_than_eight_go_by_one_by_one(self):
        yard = Yard([50], [0])
        told = [yard.day([1], [0]) for day in range(20)]
        self.assertEqual(told, [([0], 0)] * 20)
        self.assertEqual(yard.waters(), [20])


def drop_by_drop(rooms, waters, rain, wishes):
    """A day as point 4 tells it, with each drop carried by itself."""
    there = [water + rained for water, rained in zip(waters, rain)] + [0]
    drawn = [0] * len(rooms)
    for tank, room in enumerate(rooms):
        while drawn[tank] < wishes[tank] and there[tank] > 0:
            drawn[tank] += 1
            there[tank] -= 1
        while there[tank] > room:
            there[tank] -= 1
            there[tank + 1] += 1
    return drawn, there[-1], there[:-1]


class ManyDays(unittest.TestCase):
    def assert_drop_by_drop(self, rooms, waters, rain, wishes):
        yard = Yard(rooms, waters)
        drawn, off = yard.day(rain, wishes)
        self.assertEqual((drawn, off, yard.waters()), drop_by_drop(rooms, waters, rain, wishes))

    def test_every_small_day_of_one_tank(self):
        for room in range(6):
            for water in range(room + 1):
                for rained, wish in itertools.product(range(8), range(14)):
                    self.assert_drop_by_drop([room], [water], [rained], [wish])

    def test_every_small_day_of_two_tanks(self):
        tank = [(room, water) for room in range(3) for water in range(room + 1)]
        for upper, lower in itertools.product(tank, tank):
            for numbers in itertools.product(range(4), repeat=4):
                rooms = [upper[0], lower[0]]
                waters = [upper[1], lower[1]]
                self.assert_drop_by_drop(rooms, waters, list(numbers[:2]), list(numbers[2:]))

    def test_days_of_four_tanks_in_a_row(self):
        yard = Yard([7, 0, 12, 3], [7, 0, 5, 1])
        for day in range(400):
            rain = [(day * step + step) % 31 for step in (7, 11, 13, 17)]
            wishes = [(day * step + 3) % 31 for step in (19, 5, 23, 9)]
            before = yard.waters()
            drawn, off = yard.day(rain, wishes)
            self.assertEqual((drawn, off, yard.waters()), drop_by_drop(yard.rooms(), before, rain, wishes))


class RefusedDays(unittest.TestCase):
    def refused(self, rain, wishes):
        tanks = 3
        yard = Yard([9] * tanks, [4] * tanks)
        assert_refused(self, BadDays, yard.day, rain, wishes)
        self.assertEqual(yard.waters(), [4] * tanks)
        self.assertEqual(yard.rooms(), [9] * tanks)

    def test_too_long_or_too_short(self):
        right = [5, 5, 5]
        for wrong in ([], [5], [5, 5], [5, 5, 5, 5], [5] * 30, [0] * 4, [0] * 2):
            self.refused(wrong, right)
            self.refused(right, wrong)
            self.refused(wrong, list(wrong))

    def test_too_long_or_too_short_for_every_yard(self):
        for tanks in range(1, 5):
            yard = Yard([9] * tanks, [4] * tanks)
            for length in range(7):
                if length != tanks:
                    assert_refused(self, BadDays, yard.day, [1] * length, [1] * tanks)
                    assert_refused(self, BadDays, yard.day, [1] * tanks, [1] * length)
            self.assertEqual(yard.waters(), [4] * tanks)

    def test_number_out_of_bounds(self):
        right = [5, 5, 5]
        for wrong in (-1, -2, -1000, 31, 32, 50, 1000, 10 ** 30, -10 ** 30):
            for numbers in spoilt(right, wrong):
                self.refused(numbers, right)
                self.refused(right, numbers)

    def test_true_and_false_are_no_whole_numbers(self):
        self.refused([5, True, 5], [5, 5, 5])
        self.refused([5, 5, 5], [5, 5, False])

    def test_a_day_after_a_refused_one_goes_by_as_ever(self):
        yard = Yard([9, 9], [4, 4])
        assert_refused(self, BadDays, yard.day, [30, 30], [0, 31])
        self.assertEqual(yard.day([6, 0], [0, 0]), ([0, 0], 0))
        self.assertEqual(yard.waters(), [9, 5])


class ListsOfDays(unittest.TestCase):
    def test_lists_handed_in_stay_and_may_be_changed_later(self):
        yard = Yard([5, 5], [1, 1])
        rain = [9, 2]
        wishes = [1, 2]
        drawn, off = yard.day(rain, wishes)
        self.assertEqual((rain, wishes), ([9, 2], [1, 2]))
        rain.clear()
        wishes[0] = 30
        self.assertEqual((drawn, off), ([1, 2], 0))
        self.assertEqual(yard.waters(), [5, 5])

    def test_one_list_for_both(self):
        both = [3, 4]
        yard = Yard([5, 5], [1, 1])
        drawn, off = yard.day(both, both)
        self.assertEqual((drawn, off, yard.waters(), both), ([3, 4], 0, [1, 1], [3, 4]))
        self.assertIsNot(drawn, both)

    def test_list_told_may_be_changed(self):
        yard = Yard([5, 5], [2, 2])
        wishes = [2, 2]
        drawn, off = yard.day([2, 2], wishes)
        drawn[0] = 40
        drawn.append(1)
        self.assertEqual((yard.waters(), yard.rooms(), wishes), ([2, 2], [5, 5], [2, 2]))
        self.assertEqual(yard.day([2, 2], wishes), ([2, 2], 0))

    def test_two_days_tell_two_lists(self):
        yard = Yard([5], [2])
        first = yard.day([2], [2])[0]
        second = yard.day([2], [2])[0]
        self.assertIsNot(first, second)
        self.assertEqual(first, [2])

    def test_waters_told_before_a_day_stay(self):
        yard = Yard([5, 5], [2, 2])
        told = yard.waters()
        yard.day([9, 9], [0, 0])
        self.assertEqual(told, [2, 2])

    def test_another_yard_stays(self):
        yard = Yard([5, 5], [2, 2])
        other = Yard([5, 5], [2, 2])
        yard.day([9, 9], [0, 1])
        self.assertEqual((other.rooms(), other.waters()), ([5, 5], [2, 2]))
        self.assertEqual(other.day([0, 0], [3, 1]), ([2, 1], 0))
        self.assertEqual(yard.waters(), [5, 5])


if __name__ == "__main__":
    unittest.main()
