"""The line that binds most: the one with the least water above it, less the wishes above it.

The numbers here may be beyond the bounds of a yard: shares are found by taking the water and the wishes manifold.
"""


def least_end(ends, day, lying, above):
    added = sum(day[0][:above]) - sum(day[1][:above])
    choices = []
    for before, end in enumerate(ends):
        choices.append((end[0] + added + sum(lying[before:above]), end[1] + [above]))
    return min(choices)


def tightest_line(rooms, waters, days):
    # What a day adds hangs on that day and the one before it alone. So of all lines up to a day that have the same
    # number of tanks above on it, only the least one can go on to be the least of all.
    ends = [(0, [])]
    lying = waters
    for day in days:
        ends = [least_end(ends, day, lying, above) for above in range(len(rooms) + 1)]
        lying = rooms
    return min(ends)[1]
