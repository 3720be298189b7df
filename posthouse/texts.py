"""Beginnings and addresses as texts."""

from posthouse.bits import WIDTH
from posthouse.errors import BadText

FIGURES = "0123456789"


def shown_beginning(beginning):
    bits = beginning[0]
    size = beginning[1]
    signs = "".join([str(bits >> behind & 1) for behind in range(size - 1, -1, -1)])
    return signs if size == WIDTH else signs + "*"


def shown_address(address):
    first = address >> 8
    last = address & 255
    return f"{first}.{last}"


def read_beginning(text):
    starred = text.endswith("*")
    signs = text[:-1] if starred else text
    # Sixteen bits leave nothing open, so the star stands behind fewer alone.
    if starred == (len(signs) == WIDTH) or len(signs) > WIDTH:
        raise BadText(f"no beginning: {text!r}")
    bits = 0
    for sign in signs:
        if sign not in "01":
            raise BadText(f"no beginning: {text!r}")
        bits = bits * 2 + (1 if sign == "1" else 0)
    return (bits, len(signs))


def are_figures(part, most):
    # The length is looked at first: Python won't read figures without end.
    if len(part) < 1 or len(part) > most:
        return False
    return all([sign in FIGURES for sign in part]) and str(int(part)) == part


def is_eight_bits(part):
    return are_figures(part, 3) and int(part) <= 255


def read_address(text):
    parts = text.split(".")
    if len(parts) != 2 or not all([is_eight_bits(part) for part in parts]):
        raise BadText(f"no address: {text!r}")
    return int(parts[0]) * 256 + int(parts[1])
