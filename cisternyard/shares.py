"""The greatest share of every wish that can be drawn, and a plan for it."""

from cisternyard.lines import water_above, wishes_above
from cisternyard.parts import check_days
from cisternyard.tightest import tightest_line
from cisternyard.valves import fullest_plan


def lowest_terms(top, bottom):
    divisor = bottom
    rest = top
    while rest > 0:
        smaller = divisor % rest
        divisor = rest
        rest = smaller
    return (top // divisor, bottom // divisor)


def times(factor, numbers):
    return [factor * number for number in numbers]


def days_times(fraction, days):
    return [(times(fraction[1], rain), times(fraction[0], wishes)) for rain, wishes in days]


def breaking_line(yard, days, fraction):
    # All is taken manifold, by the fraction's bottom, so that this share of each wish is a whole number.
    rooms = times(fraction[1], yard.rooms())
    waters = times(fraction[1], yard.waters())
    line = tightest_line(rooms, waters, days_times(fraction, days))
    if fraction[1] * water_above(yard, days, line) < fraction[0] * wishes_above(yard, days, line):
        return line
    return None


def share(yard, days):
    check_days(len(yard.rooms()), days)
    fraction = (1, 1)
    told = None
    line = breaking_line(yard, days, fraction)
    # No plan can draw more than a line lets through; where no line breaks a share any more, some plan draws it.
    while line is not None:
        fraction = lowest_terms(water_above(yard, days, line), wishes_above(yard, days, line))
        told = line
        line = breaking_line(yard, days, fraction)
    return (fraction, told)


def fractions_of(numbers, bottom):
    return [lowest_terms(number, bottom) for number in numbers]


def share_plan(yard, days):
    fraction = share(yard, days)[0]
    bottom = fraction[1]
    plan = fullest_plan(times(bottom, yard.rooms()), times(bottom, yard.waters()), days_times(fraction, days))
    return [(fractions_of(drawn, bottom), fractions_of(kept, bottom)) for drawn, kept in plan]
