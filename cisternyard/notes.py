"""Yards as texts: a line for each tank, such as `3 of 12`."""

from cisternyard.errors import BadText, BadYard
from cisternyard.yard import MOST_ROOM, Yard


def written(yard):
    return "\n".join([f"{water} of {room}" for water, room in zip(yard.waters(), yard.rooms())])


def read_number(part):
    # Compared with how each number is written, since Python reads more than is written: blanks, signs, noughts.
    for number in range(MOST_ROOM + 1):
        if part == str(number):
            return number
    raise BadText("a number is written with figures, without a needless nought, and at most 50")


def read_tank(row):
    parts = row.split(" ")
    if len(parts) != 3 or parts[1] != "of":
        raise BadText("a tank is written as its water, `of` and its room, with a blank between two")
    return (read_number(parts[0]), read_number(parts[2]))


def read(text):
    if not isinstance(text, str):
        raise BadText("a yard is read from a text")
    tanks = [read_tank(row) for row in text.split("\n")]
    try:
        return Yard([room for water, room in tanks], [water for water, room in tanks])
    except BadYard as e:
        raise BadText("a text tells a yard of 1 to 4 tanks, none with more water than room") from e
