"""What one house knows of ways to other houses."""

from posthouse.errors import NotTied, Tied
from posthouse.marks import bettered, may_use


def place_of_way(way):
    # The newest telling comes first, then the shortest way, then the least neighbour.
    return (-way[0], way[1], way[2])


class Ways:
    def __init__(self):
        self.length_by = {}
        self.tellings_by = {}
        self.mark_of = {}

    def need_tie(self, neighbour):
        if neighbour not in self.length_by:
            raise NotTied(f"{neighbour} is not tied")

    def tie(self, neighbour, length):
        if neighbour in self.length_by:
            raise Tied(f"{neighbour} is tied already")
        self.length_by[neighbour] = length
        self.tellings_by[neighbour] = {}

    def untie(self, neighbour):
        self.need_tie(neighbour)
        self.length_by.pop(neighbour)
        self.tellings_by.pop(neighbour)

    def hear(self, neighbour, goal, number, far):
        self.need_tie(neighbour)
        self.tellings_by[neighbour][goal] = (number, far)
        # Only here, and of this goal alone, can a mark get better: a neighbour that is new has told nothing,
        # and when one goes, the way that is left is no newer and no shorter than the one ahead.
        way = self.way(goal)
        if way is not None:
            self.mark_of[goal] = bettered(self.mark(goal), way[0], way[1])

    def length(self, neighbour):
        self.need_tie(neighbour)
        return self.length_by[neighbour]

    def neighbours(self):
        return sorted(self.length_by)

    def goals(self):
        return sorted(self.mark_of)

    def mark(self, goal):
        return self.mark_of.get(goal)

    def way(self, goal):
        mark = self.mark(goal)
        usable = []
        for neighbour in self.tellings_by:
            telling = self.tellings_by[neighbour].get(goal)
            if telling is not None and may_use(mark, telling[0], telling[1]):
                usable.append((telling[0], telling[1] + self.length_by[neighbour], neighbour))
        return min(usable, key=place_of_way, default=None)
