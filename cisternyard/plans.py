"""Plans for the valves of a yard: whether one holds, and how much can be drawn."""

from cisternyard.lines import water_above, wishes_above
from cisternyard.parts import check_days, is_whole
from cisternyard.tightest import tightest_line
from cisternyard.valves import fullest_plan


def has_form(pair, tanks):
    if not isinstance(pair, tuple) or len(pair) != 2:
        return False
    return all([isinstance(numbers, list) and len(numbers) == tanks for numbers in pair])


def day_holds(rooms, lying, day, pair):
    falling = 0
    for tank, room in enumerate(rooms):
        drawn = pair[0][tank]
        kept = pair[1][tank]
        if not is_whole(drawn, day[1][tank]) or not is_whole(kept, room):
            return False
        falling = falling + lying[tank] + day[0][tank] - drawn - kept
        if falling < 0:
            return False
    return True


def holds(yard, days, plan):
    rooms = yard.rooms()
    check_days(len(rooms), days)
    if not isinstance(plan, list) or len(plan) != len(days):
        return False
    lying = yard.waters()
    for day, pair in zip(days, plan):
        if not has_form(pair, len(rooms)) or not day_holds(rooms, lying, day, pair):
            return False
        lying = pair[1]
    return True


def drawn_by(plan):
    return sum([sum(pair[0]) for pair in plan])


def most(yard, days):
    check_days(len(yard.rooms()), days)
    line = tightest_line(yard.rooms(), yard.waters(), days)
    wished = sum([sum(day[1]) for day in days])
    return (water_above(yard, days, line) + wished - wishes_above(yard, days, line), line)


def best_plan(yard, days):
    check_days(len(yard.rooms()), days)
    return fullest_plan(yard.rooms(), yard.waters(), days)
