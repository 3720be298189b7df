"""Ties between houses, and the notes that are on their way on them."""

from posthouse.errors import NoHouse, NoNote, NotTied, Tied


def in_pair(one, other):
    return (min(one, other), max(one, other))


def made_anew(thing):
    # The lists in a note are the asker's own, at whatever depth they lie. They are found by a list of nests,
    # since calls within calls go only some hundred deep.
    nests = [[thing]]
    spots = []
    at = 0
    while at < len(nests):
        nest = nests[at]
        for place, part in enumerate(nest):
            if isinstance(part, (list, tuple)):
                spots.append((at, place, isinstance(part, tuple)))
                nests.append(list(part))
        at += 1
    # A thing without lists can't be changed, so it may be kept as it is by all who hold it.
    if all([spot[2] for spot in spots]):
        return thing
    # A nest is found behind the one that it lies in, so from the last one on each is whole when it is put in.
    for spot in reversed(spots):
        nest = nests.pop()
        nests[spot[0]][spot[1]] = tuple(nest) if spot[2] else nest
    return nests[0][0]


class Ties:
    def __init__(self):
        self.length_by = {}
        # Only directions on which a note is on its way have a list here.
        self.sent_on = {}

    def need_pair(self, one, other):
        if in_pair(one, other) not in self.length_by:
            raise NotTied(f"{one} and {other} are not tied")

    def come(self, one, other, length):
        if one == other:
            raise NoHouse(f"{one} can't be tied to itself")
        if in_pair(one, other) in self.length_by:
            raise Tied(f"{one} and {other} are tied already")
        self.length_by[in_pair(one, other)] = length

    def fall(self, one, other):
        self.need_pair(one, other)
        self.length_by.pop(in_pair(one, other))
        self.sent_on.pop((one, other), None)
        self.sent_on.pop((other, one), None)

    def send(self, one, other, note):
        self.need_pair(one, other)
        self.sent_on.setdefault((one, other), []).append(made_anew(note))

    def carry(self, one, other):
        self.need_pair(one, other)
        if (one, other) not in self.sent_on:
            raise NoNote(f"no note is on its way from {one} to {other}")
        sent = self.sent_on[(one, other)]
        note = sent.pop(0)
        if sent == []:
            self.sent_on.pop((one, other))
        return note

    def length(self, one, other):
        self.need_pair(one, other)
        return self.length_by[in_pair(one, other)]

    def pairs(self):
        return [pair + (self.length_by[pair],) for pair in sorted(self.length_by)]

    def waiting(self):
        return sorted(self.sent_on)

    def notes(self, one, other):
        self.need_pair(one, other)
        return [made_anew(note) for note in self.sent_on.get((one, other), [])]
