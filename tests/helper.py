"""What several of the tests need."""

import itertools
from fractions import Fraction

from cisternyard.errors import BadDays, BadLine, BadText, BadYard, YardError
from cisternyard.yard import Yard

KINDS = (BadYard, BadDays, BadLine, BadText)


def assert_refused(case, kind, call, *handed_in):
    """The call is refused with just this kind of refusal, and what was handed in stays."""
    before = repr(handed_in)
    with case.assertRaises(kind) as caught:
        call(*handed_in)
    error = caught.exception
    case.assertIsInstance(error, YardError)
    case.assertIsInstance(error, ValueError)
    for other in KINDS:
        if other is not kind:
            case.assertNotIsInstance(error, other)
    case.assertEqual(repr(handed_in), before)


def spoilt(numbers, wrong):
    """The list once for each of its places, with the wrong number there."""
    return [numbers[:k] + [wrong] + numbers[k + 1:] for k in range(len(numbers))]


def every_line(tanks, count):
    return [list(line) for line in itertools.product(range(tanks + 1), repeat=count)]


def above_line(rooms, waters, days, line):
    """The water and the wishes above a line, tank by tank, as point 6 tells them."""
    water = 0
    wishes = 0
    for day, (rain, wished) in enumerate(days):
        for tank in range(len(rooms)):
            if tank < line[day]:
                water += rain[tank]
                wishes += wished[tank]
                if day == 0:
                    water += waters[tank]
                elif tank >= line[day - 1]:
                    water += rooms[tank]
    return water, wishes


def keeps_to_point_5(rooms, waters, days, plan):
    """Whether a plan holds, in exact fractions, for a plan with all its numbers."""
    lying = list(waters)
    for (rain, wishes), (drawn, kept) in zip(days, plan, strict=True):
        falling = Fraction(0)
        for tank in range(len(rooms)):
            falling += lying[tank] + rain[tank] - drawn[tank] - kept[tank]
            if not (0 <= drawn[tank] <= wishes[tank] and 0 <= kept[tank] <= rooms[tank] and falling >= 0):
                return False
        lying = kept
    return True


def by_themselves(yard, days):
    """What the days do by themselves (point 4), as a plan."""
    other = Yard(yard.rooms(), yard.waters())
    plan = []
    for rain, wishes in days:
        drawn = other.day(rain, wishes)[0]
        plan.append((drawn, other.waters()))
    return plan


class Numbers:
    """The same far-flung numbers in every run and under every Python."""

    def __init__(self, start):
        self.state = start

    def upto(self, most):
        self.state = (self.state * 6364136223846793005 + 1442695040888963407) % 2 ** 64
        return (self.state >> 33) % (most + 1)

    def one_of(self, choices):
        return choices[self.upto(len(choices) - 1)]


def sample(numbers, tanks, count, room, rain, wish):
    """A yard and days, with numbers up to these."""
    rooms = [numbers.upto(room) for tank in range(tanks)]
    waters = [numbers.upto(one) for one in rooms]
    days = []
    for day in range(count):
        days.append(([numbers.upto(rain) for tank in range(tanks)], [numbers.upto(wish) for tank in range(tanks)]))
    return Yard(rooms, waters), days


def samples(start, many):
    """Yards and days of all sizes, small numbers and great ones among them."""
    numbers = Numbers(start)
    for turn in range(many):
        room = numbers.one_of((0, 2, 9, 50))
        rain = numbers.one_of((1, 5, 30))
        wish = numbers.one_of((1, 5, 30))
        yield sample(numbers, 1 + numbers.upto(3), numbers.upto(8), room, rain, wish)


def lists_in(value):
    """Every list within a value, itself among them."""
    found = [value] if isinstance(value, list) else []
    if isinstance(value, (list, tuple)):
        for part in value:
            found.extend(lists_in(part))
    return found
