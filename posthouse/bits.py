"""Addresses, and beginnings of addresses."""

WIDTH = 16

GREATEST_ADDRESS = 65535


def is_number(thing):
    # Python counts True and False as whole numbers; here they are none.
    return isinstance(thing, int) and not isinstance(thing, bool)


def is_address(thing):
    return is_number(thing) and 0 <= thing <= GREATEST_ADDRESS


def is_beginning(thing):
    if not isinstance(thing, tuple) or len(thing) != 2:
        return False
    bits = thing[0]
    size = thing[1]
    if not is_number(bits) or not is_number(size):
        return False
    # A number below nought never shifts to nought, so this bounds bits on both sides.
    return 0 <= size <= WIDTH and bits >> size == 0


def begins(beginning, address):
    return within((address, WIDTH), beginning)


def within(one, other):
    spare = one[1] - other[1]
    return spare >= 0 and one[0] >> spare == other[0]


def shared(one, other):
    size = min(one[1], other[1])
    bits = one[0] >> (one[1] - size)
    unlike = bits ^ (other[0] >> (other[1] - size))
    # From the first bit that differs on, nothing is shared.
    dropped = unlike.bit_length()
    return (bits >> dropped, size - dropped)


def least(beginning):
    return (beginning[0] << WIDTH) >> beginning[1]


def greatest(beginning):
    return least(beginning) + (GREATEST_ADDRESS >> beginning[1])


def place_in_order(beginning):
    return (least(beginning), beginning[1])


def in_order(beginnings):
    return sorted(beginnings, key=place_in_order)
