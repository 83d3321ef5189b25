"""A yard: tanks one below the other on a slope, and how its days go by."""

from cisternyard.errors import BadYard
from cisternyard.parts import are_whole, check_day

MOST_TANKS = 4
MOST_ROOM = 50


def check_yard(rooms, waters):
    if not are_whole(rooms, MOST_ROOM) or not are_whole(waters, MOST_ROOM):
        raise BadYard("rooms and waters are lists of whole numbers from 0 to 50")
    if not 1 <= len(rooms) <= MOST_TANKS:
        raise BadYard("a yard has 1 to 4 tanks")
    if len(waters) != len(rooms):
        raise BadYard("there is a water for each room")
    if any([water > room for room, water in zip(rooms, waters)]):
        raise BadYard("no tank has more water than room")


class Yard:
    # The lists are copied on the way in and on the way out, so that nobody else's list is the yard's own.

    def __init__(self, rooms, waters):
        check_yard(rooms, waters)
        self.sizes = list(rooms)
        self.levels = list(waters)

    def rooms(self):
        return list(self.sizes)

    def waters(self):
        return list(self.levels)

    def day(self, rain, wishes):
        check_day(len(self.sizes), rain, wishes)
        drawn = []
        kept = []
        falling = 0
        for room, water, rained, wish in zip(self.sizes, self.levels, rain, wishes):
            there = water + rained + falling
            draw = min(wish, there)
            stay = min(room, there - draw)
            falling = there - draw - stay
            drawn.append(draw)
            kept.append(stay)
        self.levels = kept
        return (drawn, falling)
