"""Points 1 and 3 over the whole program: wrong days, what stays, and whose the lists are."""

import copy
import unittest

from cisternyard.errors import BadDays
from cisternyard.lines import water_above, wishes_above
from cisternyard.notes import read, written
from cisternyard.plans import best_plan, drawn_by, holds, most
from cisternyard.shares import share, share_plan
from cisternyard.yard import Yard
from helper import assert_refused, by_themselves, lists_in, spoilt

ROOMS = [5, 1, 1]
WATERS = [5, 0, 1]
DAYS = [([1, 0, 2], [2, 3, 0]), ([1, 1, 1], [2, 3, 4]), ([0, 3, 2], [4, 2, 1])]


def nothing_drawn(days):
    return [([0, 0, 0], [0, 0, 0]) for day in days]


# Each of those that take days, asked of a yard and days alone.
ASKINGS = {
    "water_above": lambda yard, days: water_above(yard, days, [1] * len(days)),
    "wishes_above": lambda yard, days: wishes_above(yard, days, [1] * len(days)),
    "holds": lambda yard, days: holds(yard, days, nothing_drawn(days)),
    "most": most,
    "best_plan": best_plan,
    "share": share,
    "share_plan": share_plan,
}


class RefusedDays(unittest.TestCase):
    def refused(self, days):
        for name, asking in ASKINGS.items():
            with self.subTest(name=name, days=days):
                yard = Yard(ROOMS, WATERS)
                before = copy.deepcopy(days)
                assert_refused(self, BadDays, asking, yard, days)
                self.assertEqual(days, before)
                self.assertEqual((yard.rooms(), yard.waters()), (ROOMS, WATERS))

    def test_none_to_eight_days_are_not_refused(self):
        for count in range(9):
            for name, asking in ASKINGS.items():
                asking(Yard(ROOMS, WATERS), [([0, 30, 0], [30, 0, 30]) for day in range(count)])

    def test_nine_days_and_more(self):
        for count in (9, 10, 40):
            self.refused([([0, 0, 0], [0, 0, 0]) for day in range(count)])

    def test_a_list_longer_or_shorter(self):
        for place in range(3):
            rain, wishes = DAYS[place]
            for day in ((rain + [0], wishes), (rain, wishes + [0]), (rain[:2], wishes), (rain, wishes[:2]),
                        ([], wishes), (rain, []), (rain[:2], wishes[:2]), (rain + [0], wishes + [0]), ([], [])):
                self.refused(DAYS[:place] + [day] + DAYS[place + 1:])

    def test_a_number_that_is_not_so(self):
        for place in range(3):
            rain, wishes = DAYS[place]
            for wrong in (-1, 31, -1000, 1000, 10 ** 30, -10 ** 30):
                for numbers in spoilt(rain, wrong):
                    self.refused(DAYS[:place] + [(numbers, wishes)] + DAYS[place + 1:])
                for numbers in spoilt(wishes, wrong):
                    self.refused(DAYS[:place] + [(rain, numbers)] + DAYS[place + 1:])

    def test_the_last_of_eight_days(self):
        seven = [([1, 1, 1], [1, 1, 1]) for day in range(7)]
        for wrong in ([-1, 1, 1], [1, 1, 31], [1, 1], [1, 1, 1, 1]):
            self.refused(seven + [(wrong, [1, 1, 1])])
            self.refused(seven + [([1, 1, 1], wrong)])

    def test_a_day_that_is_no_pair(self):
        for wrong in ((), ([0, 0, 0],), ([0, 0, 0], [0, 0, 0], [0, 0, 0]), ([0, 0, 0], [0, 0, "0"])):
            self.refused([wrong] + DAYS[1:])
            self.refused(DAYS[:2] + [wrong])

    def test_days_of_a_yard_with_other_tanks(self):
        for name, asking in ASKINGS.items():
            with self.subTest(name=name):
                assert_refused(self, BadDays, asking, Yard([5], [5]), DAYS)
                assert_refused(self, BadDays, asking, Yard([5] * 4, [5] * 4), DAYS)

    def test_a_plan_that_does_not_hold_is_no_way_round(self):
        wrong = DAYS[:2] + [([0, 3, 31], [4, 2, 1])]
        for plan in ([], nothing_drawn(wrong), [([0], [0])], [([-1] * 3, [99] * 3)] * 3):
            assert_refused(self, BadDays, holds, Yard(ROOMS, WATERS), wrong, plan)


class NothingIsChanged(unittest.TestCase):
    def test_by_asking(self):
        line = [2, 3, 1]
        plan = by_themselves(Yard(ROOMS, WATERS), DAYS)
        calls = dict(ASKINGS)
        calls["water_above"] = lambda yard, days: water_above(yard, days, line)
        calls["wishes_above"] = lambda yard, days: wishes_above(yard, days, line)
        calls["holds"] = lambda yard, days: holds(yard, days, plan)
        calls["drawn_by"] = lambda yard, days: drawn_by(plan)
        calls["written"] = lambda yard, days: written(yard)
        before = copy.deepcopy((DAYS, line, plan))
        for name, call in calls.items():
            with self.subTest(name=name):
                yard = Yard(ROOMS, WATERS)
                first = call(yard, DAYS)
                self.assertEqual((yard.rooms(), yard.waters()), (ROOMS, WATERS))
                self.assertEqual((DAYS, line, plan), before)
                self.assertEqual(call(yard, DAYS), first)

    def test_a_yard_goes_on_as_if_nothing_was_asked(self):
        yard = Yard(ROOMS, WATERS)
        other = Yard(ROOMS, WATERS)
        for rain, wishes in DAYS:
            for asking in ASKINGS.values():
                asking(yard, DAYS)
            written(yard)
            self.assertEqual(yard.day(rain, wishes), other.day(rain, wishes))
            self.assertEqual(yard.waters(), other.waters())

    def test_a_plan_that_does_not_hold_stays(self):
        yard = Yard(ROOMS, WATERS)
        for plan in ([], [([9, 9, 9], [9, 9, 9])] * 3, [([0], [0, 0])] * 3, [([0, 0, 0], [-1, 0, 0])] * 3):
            before = copy.deepcopy(plan)
            self.assertIs(holds(yard, DAYS, plan), False)
            self.assertEqual(plan, before)


class NothingIsKept(unittest.TestCase):
    def test_days_changed_later_change_nothing_told(self):
        for name, asking in ASKINGS.items():
            with self.subTest(name=name):
                yard = Yard(ROOMS, WATERS)
                days = copy.deepcopy(DAYS)
                told = asking(yard, days)
                before = copy.deepcopy(told)
                for rain, wishes in days:
                    rain[0] = 30
                    wishes.clear()
                days.pop()
                yard.day([30, 30, 30], [1, 1, 1])
                self.assertEqual(told, before)
                self.assertEqual(asking(Yard(ROOMS, WATERS), DAYS), before)


class WhoseTheListsAre(unittest.TestCase):
    def assert_apart(self, lists):
        self.assertEqual(len({id(one) for one in lists}), len(lists))

    def cases(self):
        """Days that are all one pair, of one list twice, and yards where drawn and kept are alike among them."""
        one = [2, 2, 2]
        none = [0, 0, 0]
        yield Yard(ROOMS, WATERS), DAYS
        yield Yard([2, 2, 2], [2, 2, 2]), [(one, one)] * 8
        yield Yard([0, 0, 0], [0, 0, 0]), [(none, none)] * 3
        yield Yard([50, 50, 50], [0, 0, 0]), [(none, one)] * 4
        yield Yard(ROOMS, WATERS), []

    def test_no_two_lists_told_are_one(self):
        for name in ("most", "best_plan", "share", "share_plan"):
            for yard, days in self.cases():
                with self.subTest(name=name, days=days):
                    told = lists_in(ASKINGS[name](yard, days)) + lists_in(ASKINGS[name](yard, days))
                    self.assert_apart(told)
                    handed_in = {id(one) for one in lists_in(days)}
                    self.assertEqual([one for one in told if id(one) in handed_in], [])

    def test_what_is_told_may_be_changed(self):
        for name in ("most", "best_plan", "share", "share_plan"):
            for yard, days in self.cases():
                with self.subTest(name=name, days=days):
                    told = ASKINGS[name](yard, days)
                    before = copy.deepcopy((told, days, yard.rooms(), yard.waters()))
                    for one in lists_in(told):
                        one.append(40)
                        one[0] = 40
                    self.assertEqual((days, yard.rooms(), yard.waters()), before[1:])
                    self.assertEqual(ASKINGS[name](yard, days), before[0])

    def test_a_yard_that_is_read_is_the_readers_own(self):
        text = "3 of 12\n0 of 4"
        first = read(text)
        first.day([9, 9], [0, 0])
        self.assertEqual(read(text).waters(), [3, 0])
        self.assert_apart([first.rooms(), read(text).rooms(), first.waters(), read(text).waters()])


if __name__ == "__main__":
    unittest.main()
