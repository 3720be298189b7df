"""Tables: beginnings, and what stands by each of them."""

from posthouse.bits import WIDTH, in_order, within
from posthouse.errors import NoRow


class Table:
    def __init__(self):
        self.thing_by = {}

    def put(self, beginning, thing):
        self.thing_by[beginning] = thing

    def cut(self, beginning):
        if beginning not in self.thing_by:
            raise NoRow(f"no row of {beginning!r}")
        self.thing_by.pop(beginning)

    def get(self, beginning, other=None):
        return self.thing_by.get(beginning, other)

    def has(self, beginning):
        return beginning in self.thing_by

    def count(self):
        return len(self.thing_by)

    def longest(self, address, most=16):
        for size in range(min(most, WIDTH), -1, -1):
            beginning = (address >> (WIDTH - size), size)
            if beginning in self.thing_by:
                return (beginning, self.thing_by[beginning])
        return None

    def rows(self):
        return [(beginning, self.thing_by[beginning]) for beginning in in_order(list(self.thing_by))]

    def under(self, beginning):
        return [row for row in self.rows() if within(row[0], beginning)]
