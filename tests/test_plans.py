"""Point 5: plans, and when they hold."""

import itertools
import unittest

from cisternyard.plans import drawn_by, holds
from cisternyard.yard import Yard
from helper import Numbers, by_themselves, keeps_to_point_5, samples

ROOMS = [5, 3]
WATERS = [4, 1]
DAYS = [([3, 0], [2, 4]), ([0, 2], [3, 3])]
# On the first day 7 and 1 are there; 2 are drawn, 4 are kept and 1 falls; then 2 are there, 1 is drawn and 1 is kept.
# On the second day 4 and 3 are there; 1 is drawn, 2 are kept and 1 falls; then 4 are there, 3 are drawn, 0 are kept.
PLAN = [([2, 1], [4, 1]), ([1, 3], [2, 0])]


def with_number(plan, day, part, tank, number):
    """The plan with another number at one place; part 0 is the drawn, part 1 the kept."""
    changed = [(list(drawn), list(kept)) for drawn, kept in plan]
    changed[day][part][tank] = number
    return changed


class Holding(unittest.TestCase):
    def held(self, yard, days, plan):
        self.assertIs(holds(yard, days, plan), True)

    def broken(self, yard, days, plan):
        self.assertIs(holds(yard, days, plan), False)

    def test_what_the_days_do_by_themselves(self):
        for yard, days in samples(11, 400):
            self.held(yard, days, by_themselves(yard, days))

    def test_valves_that_let_more_fall(self):
        yard = Yard(ROOMS, WATERS)
        self.held(yard, DAYS, PLAN)
        self.held(yard, DAYS, [([2, 4], [0, 2]), ([0, 3], [0, 1])])
        self.held(yard, DAYS, [([0, 0], [0, 0]), ([0, 0], [0, 0])])

    def test_all_falls_through_tanks_without_room(self):
        yard = Yard([9, 0, 0, 0], [9, 0, 0, 0])
        days = [([0] * 4, [0, 0, 0, 9])]
        self.held(yard, days, [([0, 0, 0, 9], [0, 0, 0, 0])])
        self.broken(yard, days, [([0, 0, 0, 9], [1, 0, 0, 0])])

    def test_nothing_runs_up(self):
        yard = Yard([9, 9], [0, 9])
        self.broken(yard, [([0, 0], [1, 0])], [([1, 0], [0, 0])])
        self.broken(yard, [([0, 9], [0, 0])], [([0, 0], [1, 9])])

    def test_more_than_fell_is_not_there_below(self):
        yard = Yard([9, 9], [4, 0])
        days = [([0, 0], [4, 4])]
        self.held(yard, days, [([1, 1], [2, 0])])
        self.broken(yard, days, [([1, 2], [2, 0])])
        self.broken(yard, days, [([1, 1], [2, 1])])

    def test_what_is_kept_lies_there_on_the_next_day(self):
        yard = Yard([9], [0])
        days = [([9], [0]), ([0], [9])]
        self.held(yard, days, [([0], [9]), ([9], [0])])
        self.broken(yard, days, [([0], [8]), ([9], [0])])
        self.broken(yard, days, [([0], [0]), ([1], [0])])

    def test_what_is_kept_over_the_last_night_counts_too(self):
        yard = Yard([9], [5])
        days = [([0], [5])]
        self.held(yard, days, [([2], [3])])
        self.broken(yard, days, [([3], [3])])
        self.broken(yard, days, [([2], [4])])
        self.broken(yard, days, [([0], [-1])])

    def test_drawn_above_the_wish(self):
        yard = Yard([50, 50], [50, 50])
        days = [([30, 30], [2, 3]), ([30, 30], [4, 5])]
        plan = [([2, 3], [0, 0]), ([4, 5], [0, 0])]
        self.held(yard, days, plan)
        for day, tank in itertools.product(range(2), range(2)):
            self.broken(yard, days, with_number(plan, day, 0, tank, days[day][1][tank] + 1))

    def test_kept_above_the_room(self):
        yard = Yard([2, 3], [2, 3])
        days = [([30, 30], [0, 0]), ([30, 30], [0, 0])]
        plan = [([0, 0], [2, 3]), ([0, 0], [2, 3])]
        self.held(yard, days, plan)
        for day, tank in itertools.product(range(2), range(2)):
            self.broken(yard, days, with_number(plan, day, 1, tank, yard.rooms()[tank] + 1))

    def test_below_nought(self):
        yard = Yard([50, 50], [50, 50])
        days = [([30, 30], [9, 9]), ([30, 30], [9, 9])]
        plan = [([1, 1], [1, 1]), ([1, 1], [1, 1])]
        self.held(yard, days, plan)
        for day, part, tank in itertools.product(range(2), range(2), range(2)):
            self.held(yard, days, with_number(plan, day, part, tank, 0))
            self.broken(yard, days, with_number(plan, day, part, tank, -1))

    def test_more_drawn_and_kept_than_there_is(self):
        yard = Yard([50, 50], [3, 4])
        days = [([1, 2], [30, 30]), ([5, 6], [30, 30])]
        plan = [([2, 3], [2, 3]), ([3, 4], [4, 5])]
        self.held(yard, days, plan)
        for day, part, tank in itertools.product(range(2), range(2), range(2)):
            self.broken(yard, days, with_number(plan, day, part, tank, plan[day][part][tank] + 1))

    def test_numbers_far_off(self):
        yard = Yard(ROOMS, WATERS)
        for number in (-1000, 1000, -10 ** 30, 10 ** 30):
            for day, part, tank in itertools.product(range(2), range(2), range(2)):
                self.broken(yard, DAYS, with_number(PLAN, day, part, tank, number))

    def test_a_day_more_or_less(self):
        yard = Yard(ROOMS, WATERS)
        nothing = ([0, 0], [0, 0])
        self.broken(yard, DAYS, PLAN[:1])
        self.broken(yard, DAYS, PLAN + [nothing])
        self.broken(yard, DAYS, [])
        self.broken(yard, [], [nothing])

    def test_a_list_longer_or_shorter(self):
        yard = Yard(ROOMS, WATERS)
        for day in range(2):
            drawn, kept = PLAN[day]
            for wrong in ([], [0], [0, 0, 0], [0, 0, 0, 0]):
                for pair in ((wrong, kept), (drawn, wrong), (wrong, list(wrong))):
                    self.broken(yard, DAYS, PLAN[:day] + [pair] + PLAN[day + 1:])
            for pair in ((drawn + [0], kept), (drawn, kept + [0]), (drawn[:1], kept), (drawn, kept[:1])):
                self.broken(yard, DAYS, PLAN[:day] + [pair] + PLAN[day + 1:])

    def test_not_a_pair(self):
        yard = Yard(ROOMS, WATERS)
        none = [0, 0]
        for wrong in ((), (none,), (none, none, none), [none, none], None, (none, (0, 0)), ((0, 0), none)):
            self.broken(yard, DAYS, [wrong, PLAN[1]])
            self.broken(yard, DAYS, [PLAN[0], wrong])

    def test_fractions_and_other_kinds_are_no_whole_numbers(self):
        yard = Yard(ROOMS, WATERS)
        for number in ((0, 1), True, None, "0"):
            for day, part, tank in itertools.product(range(2), range(2), range(2)):
                self.broken(yard, DAYS, with_number(PLAN, day, part, tank, number))

    def test_not_a_list(self):
        self.broken(Yard(ROOMS, WATERS), DAYS, tuple(PLAN))
        self.broken(Yard(ROOMS, WATERS), [], ())
        self.broken(Yard(ROOMS, WATERS), [], None)

    def test_no_day_at_all(self):
        self.held(Yard(ROOMS, WATERS), [], [])

    def test_a_yard_on_which_days_have_gone_by(self):
        yard = Yard([5], [0])
        days = [([0], [5])]
        self.broken(yard, days, [([4], [0])])
        yard.day([4], [0])
        self.held(yard, days, [([4], [0])])
        self.broken(yard, days, [([5], [0])])

    def test_arguments_by_name(self):
        self.assertIs(holds(plan=PLAN, days=DAYS, yard=Yard(ROOMS, WATERS)), True)


class EveryPlan(unittest.TestCase):
    def assert_as_told(self, rooms, waters, days, plan):
        self.assertIs(holds(Yard(rooms, waters), days, plan), keeps_to_point_5(rooms, waters, days, plan))

    def test_every_small_plan_of_one_day(self):
        days = [([1, 1], [2, 2])]
        for upper, upper_kept, lower, lower_kept in itertools.product(range(-1, 4), repeat=4):
            self.assert_as_told([1, 2], [1, 0], days, [([upper, lower], [upper_kept, lower_kept])])

    def test_every_small_plan_of_two_days(self):
        days = [([1], [2]), ([2], [3])]
        for first, first_kept, second, second_kept in itertools.product(range(-1, 5), repeat=4):
            self.assert_as_told([2], [2], days, [([first], [first_kept]), ([second], [second_kept])])

    def test_numbers_one_more_or_one_less(self):
        numbers = Numbers(5)
        for yard, days in samples(12, 300):
            plan = by_themselves(yard, days)
            for day in range(len(days)):
                part = numbers.upto(1)
                tank = numbers.upto(len(yard.rooms()) - 1)
                for number in (plan[day][part][tank] - 1, plan[day][part][tank] + 1):
                    changed = with_number(plan, day, part, tank, number)
                    self.assert_as_told(yard.rooms(), yard.waters(), days, changed)


class DrawnByPlans(unittest.TestCase):
    def test_the_empty_plan(self):
        self.assertEqual(drawn_by([]), 0)

    def test_all_days_and_all_tanks(self):
        self.assertEqual(drawn_by(PLAN), 2 + 1 + 1 + 3)
        self.assertEqual(drawn_by([([7], [20])]), 7)
        self.assertEqual(drawn_by([([1, 2, 3, 4], [9, 9, 9, 9]), ([0] * 4, [9] * 4), ([5, 0, 0, 6], [0] * 4)]), 21)

    def test_nothing_drawn(self):
        self.assertEqual(drawn_by([([0, 0], [5, 5]), ([0, 0], [5, 5])]), 0)

    def test_by_name(self):
        self.assertEqual(drawn_by(plan=PLAN), 7)


if __name__ == "__main__":
    unittest.main()
