"""Lines across the days of a yard, and what is above them."""

from cisternyard.errors import BadLine
from cisternyard.parts import are_whole, check_days


def check_line(tanks, days, line):
    if not are_whole(line, tanks):
        raise BadLine("a line is a list of whole numbers from nought to all tanks")
    if len(line) != len(days):
        raise BadLine("a line has a number for each day")


def check_days_and_line(yard, days, line):
    tanks = len(yard.rooms())
    check_days(tanks, days)
    check_line(tanks, days, line)


def water_above(yard, days, line):
    check_days_and_line(yard, days, line)
    # Before the first day no tank is above, and what then comes above with a tank is its water, later its room.
    before = 0
    lying = yard.waters()
    water = 0
    for day, above in zip(days, line):
        water = water + sum(day[0][:above]) + sum(lying[before:above])
        before = above
        lying = yard.rooms()
    return water


def wishes_above(yard, days, line):
    check_days_and_line(yard, days, line)
    return sum([sum(day[1][:above]) for day, above in zip(days, line)])
