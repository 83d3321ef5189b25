"""Points 1 and 2: what a yard is, what is refused, and that no list is shared."""

import unittest

from cisternyard.errors import BadYard
from cisternyard.yard import Yard
from helper import assert_refused, spoilt


class Yards(unittest.TestCase):
    def assert_yard(self, rooms, waters):
        yard = Yard(list(rooms), list(waters))
        self.assertEqual(yard.rooms(), rooms)
        self.assertEqual(yard.waters(), waters)
        self.assertIsInstance(yard.rooms(), list)
        self.assertIsInstance(yard.waters(), list)

    def test_one_to_four_tanks(self):
        self.assert_yard([12], [3])
        self.assert_yard([12, 7], [3, 6])
        self.assert_yard([12, 7, 1], [3, 6, 1])
        self.assert_yard([12, 7, 1, 49], [3, 6, 0, 48])

    def test_edges_of_room_and_water(self):
        for tanks in range(1, 5):
            for room in (0, 1, 49, 50):
                self.assert_yard([room] * tanks, [0] * tanks)
                self.assert_yard([room] * tanks, [room] * tanks)

    def test_every_room_and_every_water_in_it(self):
        for room in range(51):
            for water in range(room + 1):
                self.assert_yard([room], [water])

    def test_arguments_by_name(self):
        yard = Yard(waters=[3], rooms=[12])
        self.assertEqual((yard.rooms(), yard.waters()), ([12], [3]))


class RefusedYards(unittest.TestCase):
    def refused(self, rooms, waters):
        assert_refused(self, BadYard, Yard, rooms, waters)

    def test_no_tank(self):
        self.refused([], [])

    def test_five_tanks_and_more(self):
        for tanks in (5, 6, 8, 40):
            self.refused([9] * tanks, [2] * tanks)
            self.refused([0] * tanks, [0] * tanks)

    def test_lists_of_different_length(self):
        for longer in range(1, 7):
            for shorter in range(longer):
                self.refused([9] * longer, [2] * shorter)
                self.refused([9] * shorter, [2] * longer)

    def test_room_out_of_bounds(self):
        for tanks in range(1, 5):
            for room in (-1, -2, -1000, 51, 52, 1000, 10 ** 30, -10 ** 30):
                for rooms in spoilt([9] * tanks, room):
                    self.refused(rooms, [0] * tanks)

    def test_room_and_water_out_of_bounds_together(self):
        self.refused([51], [51])
        self.refused([-1], [-1])
        self.refused([9, 51, 9], [9, 51, 9])

    def test_water_out_of_bounds(self):
        for tanks in range(1, 5):
            for water in (-1, -2, -1000, 10, 11, 50, 51, 1000, 10 ** 30, -10 ** 30):
                for waters in spoilt([2] * tanks, water):
                    self.refused([9] * tanks, waters)

    def test_water_above_its_own_room_though_not_above_another(self):
        self.refused([0], [1])
        self.refused([50], [51])
        self.refused([5, 9], [6, 0])
        self.refused([9, 5], [0, 6])
        self.refused([50, 50, 50, 0], [0, 0, 0, 1])

    def test_true_and_false_are_no_whole_numbers(self):
        self.refused([True], [0])
        self.refused([5], [False])


class ListsOfYards(unittest.TestCase):
    def test_lists_handed_in_stay_and_may_be_changed_later(self):
        rooms = [12, 7]
        waters = [3, 6]
        yard = Yard(rooms, waters)
        self.assertEqual((rooms, waters), ([12, 7], [3, 6]))
        rooms[0] = 0
        waters.append(40)
        self.assertEqual((yard.rooms(), yard.waters()), ([12, 7], [3, 6]))
        yard.day([5, 5], [0, 0])
        self.assertEqual((rooms, waters), ([0, 7], [3, 6, 40]))

    def test_one_list_for_both(self):
        both = [5, 8]
        yard = Yard(both, both)
        self.assertEqual(yard.day([0, 0], [5, 1]), ([5, 1], 0))
        self.assertEqual((yard.rooms(), yard.waters()), ([5, 8], [0, 7]))
        self.assertEqual(both, [5, 8])

    def test_lists_told_may_be_changed(self):
        yard = Yard([12, 7], [3, 6])
        yard.rooms()[0] = 0
        yard.waters()[1] = 0
        yard.rooms().append(1)
        yard.waters().clear()
        self.assertEqual((yard.rooms(), yard.waters()), ([12, 7], [3, 6]))
        self.assertEqual(yard.day([10, 0], [0, 0]), ([0, 0], 0))
        self.assertEqual(yard.waters(), [12, 7])

    def test_two_tellings_are_never_one_list(self):
        yard = Yard([7, 7], [7, 7])
        told = [yard.rooms(), yard.rooms(), yard.waters(), yard.waters()]
        self.assertEqual(len({id(one) for one in told}), 4)
        yard.day([0, 0], [0, 0])
        told.extend([yard.rooms(), yard.waters(), yard.waters()])
        self.assertEqual(len({id(one) for one in told}), 7)

    def test_yards_of_the_same_lists_are_apart(self):
        rooms = [5, 5]
        waters = [2, 3]
        first = Yard(rooms, waters)
        second = Yard(rooms, waters)
        third = Yard(first.rooms(), first.waters())
        first.day([30, 0], [0, 0])
        self.assertEqual(first.waters(), [5, 5])
        self.assertEqual(second.waters(), [2, 3])
        self.assertEqual(third.waters(), [2, 3])
        self.assertEqual(waters, [2, 3])


if __name__ == "__main__":
    unittest.main()
