"""Deeds: what can be done to a net."""

from posthouse.bits import is_beginning, is_number
from posthouse.notes import is_house

LONGEST_TIE = 99


def is_length(thing):
    return is_number(thing) and 1 <= thing <= LONGEST_TIE


def is_owning(thing):
    return len(thing) == 3 and thing[0] == "own" and is_house(thing[1]) and is_beginning(thing[2])


def is_coming(thing):
    if len(thing) != 4 or thing[0] != "come":
        return False
    return is_house(thing[1]) and is_house(thing[2]) and is_length(thing[3])


def is_fall_or_carry(thing):
    return len(thing) == 3 and thing[0] in ("fall", "carry") and is_house(thing[1]) and is_house(thing[2])


def is_deed(thing):
    return isinstance(thing, tuple) and (is_owning(thing) or is_coming(thing) or is_fall_or_carry(thing))
