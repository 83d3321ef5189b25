"""What several files need: whole numbers within bounds, and what a day and days may be."""

from cisternyard.errors import BadDays

MOST_DAYS = 8
MOST_IN_A_DAY = 30


def is_whole(value, most):
    # Python counts True and False among its whole numbers, the document does not.
    if not isinstance(value, int) or isinstance(value, bool):
        return False
    return 0 <= value <= most


def are_whole(values, most):
    return isinstance(values, list) and all([is_whole(value, most) for value in values])


def check_day(tanks, rain, wishes):
    for numbers in (rain, wishes):
        if not are_whole(numbers, MOST_IN_A_DAY):
            raise BadDays("rain and wishes are lists of whole numbers from 0 to 30")
        if len(numbers) != tanks:
            raise BadDays("rain and wishes have a number for each tank")


def check_days(tanks, days):
    if not isinstance(days, list) or len(days) > MOST_DAYS:
        raise BadDays("days are a list of 0 to 8")
    for day in days:
        if not isinstance(day, tuple) or len(day) != 2:
            raise BadDays("a day is a pair of the rain and the wishes")
        check_day(tanks, day[0], day[1])
