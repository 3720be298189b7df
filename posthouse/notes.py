"""Notes: what a house tells a neighbour."""

from posthouse.bits import in_order, is_beginning, is_number

GREATEST_HOUSE = 31


def is_house(thing):
    return is_number(thing) and 0 <= thing <= GREATEST_HOUSE


def is_number_from(thing, lowest):
    return is_number(thing) and thing >= lowest


def are_beginnings(thing):
    if not isinstance(thing, tuple) or not all([is_beginning(part) for part in thing]):
        return False
    return len(set(thing)) == len(thing) and in_order(thing) == list(thing)


def is_way_note(thing):
    if len(thing) != 5 or thing[0] != "way" or not is_house(thing[1]):
        return False
    if not is_number_from(thing[2], 1):
        return False
    return (thing[3] is None or is_number_from(thing[3], 0)) and are_beginnings(thing[4])


def is_news_note(thing):
    return len(thing) == 3 and thing[0] == "news" and is_house(thing[1]) and is_number_from(thing[2], 1)


def is_note(thing):
    return isinstance(thing, tuple) and (is_way_note(thing) or is_news_note(thing))
