"""A net: houses, the ties between them, and what is done to them."""

from posthouse.bits import is_number
from posthouse.deeds import is_deed
from posthouse.errors import BadDeed, NoHouse, Owned
from posthouse.houses import House
from posthouse.ties import Ties

MOST_HOUSES = 32


class Net:
    def __init__(self, count):
        # The thing isn't shown, here and below: it may be one that Python can't write out.
        if not is_number(count) or not 1 <= count <= MOST_HOUSES:
            raise NoHouse("no number of houses from 1 to 32")
        self.houses = [House(number) for number in range(count)]
        self.between = Ties()
        self.done = []

    def do(self, deed):
        self.need_deed(deed)
        sent = self.do_by_kind(deed)
        self.done.append(deed)
        return sent

    def need_deed(self, deed):
        if not is_deed(deed):
            raise BadDeed("no deed")
        self.need_house(deed[1])
        if deed[0] != "own":
            self.need_house(deed[2])
            if deed[1] == deed[2]:
                raise NoHouse("the two are the same house")

    def need_house(self, number):
        if not is_number(number) or not 0 <= number < self.count():
            raise NoHouse("no house of this net")

    def do_by_kind(self, deed):
        if deed[0] == "own":
            return self.do_own(deed[1], deed[2])
        if deed[0] == "come":
            return self.do_come(deed[1], deed[2], deed[3])
        if deed[0] == "fall":
            return self.do_fall(deed[1], deed[2])
        return self.do_carry(deed[1], deed[2])

    def do_own(self, one, beginning):
        if any([beginning in house.beginnings() for house in self.houses]):
            raise Owned(f"{beginning!r} is owned already")
        return self.send_all(one, self.houses[one].own(beginning))

    def do_come(self, one, other, length):
        self.between.come(one, other, length)
        sent = self.send_all(one, self.houses[one].meet(other, length))
        return sent + self.send_all(other, self.houses[other].meet(one, length))

    def do_fall(self, one, other):
        self.between.fall(one, other)
        sent = self.send_all(one, self.houses[one].lose(other))
        return sent + self.send_all(other, self.houses[other].lose(one))

    def do_carry(self, one, other):
        note = self.between.carry(one, other)
        return self.send_all(other, self.houses[other].hear(one, note))

    def send_all(self, one, written):
        for other, note in written:
            self.between.send(one, other, note)
        return len(written)

    def rest(self, pick, most=None):
        carried = 0
        waiting = self.waiting()
        while waiting != [] and (most is None or carried < most):
            # What pick does to its list must not change which direction is meant.
            place = pick(list(waiting)) % len(waiting)
            self.do(("carry", waiting[place][0], waiting[place][1]))
            carried += 1
            waiting = self.waiting()
        return carried

    def house(self, number):
        self.need_house(number)
        return self.houses[number]

    def ties(self):
        return self.between.pairs()

    def waiting(self):
        return self.between.waiting()

    def count(self):
        return len(self.houses)

    def log(self):
        return list(self.done)
