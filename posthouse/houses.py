"""A house: what it owns, what it knows, and what it writes to its neighbours."""

from posthouse.bits import in_order
from posthouse.errors import NoNote, Owned
from posthouse.marks import may_use
from posthouse.notes import is_note
from posthouse.tables import Table
from posthouse.ways import Ways


class House:
    def __init__(self, number):
        self.number = number
        self.raised = 1
        self.owned = ()
        self.ways = Ways()
        self.beginnings_by = {}
        self.news_written = 0
        self.news_heard = {}

    def own(self, beginning):
        if beginning in self.owned:
            raise Owned(f"{beginning!r} is owned already")
        self.owned = tuple(in_order(self.owned + (beginning,)))
        return self.raise_number()

    def meet(self, neighbour, length):
        self.ways.tie(neighbour, length)
        written = [(neighbour, self.note_about_itself())]
        for goal in self.ways.goals():
            written.append((neighbour, self.note_about(goal)))
        # Both ends meet, but one of them is enough to spread that the tie came.
        if self.number < neighbour:
            written.extend(self.write_own_news())
        return written

    def lose(self, neighbour):
        goals = self.ways.goals()
        ahead = [self.telling(goal) for goal in goals]
        self.ways.untie(neighbour)
        return self.told_otherwise(goals, ahead) + self.write_own_news()

    def hear(self, neighbour, note):
        self.ways.need_tie(neighbour)
        if not is_note(note):
            # The thing isn't shown: it may be one that Python can't write out.
            raise NoNote("no note")
        if note[1] == self.number:
            return []
        if note[0] == "news":
            return self.hear_news(note)
        return self.hear_way(neighbour, note)

    def hear_news(self, note):
        if note[2] <= self.news_heard.get(note[1], 0):
            return []
        self.news_heard[note[1]] = note[2]
        return self.to_each(note) + self.raise_number()

    def hear_way(self, neighbour, note):
        goal = note[1]
        ahead = self.telling(goal)
        mark = self.mark(goal)
        self.ways.hear(neighbour, goal, note[2], note[3])
        if may_use(mark, note[2], note[3]) and (mark is None or note[2] > mark[0]):
            self.beginnings_by[goal] = note[4]
        return self.told_otherwise([goal], [ahead])

    def telling(self, goal):
        mark = self.mark(goal)
        if mark is None:
            return None
        way = self.way(goal)
        return (mark[0], None if way is None else way[1])

    def told_otherwise(self, goals, ahead):
        written = []
        for goal, told in zip(goals, ahead):
            if self.telling(goal) != told:
                written.extend(self.to_each(self.note_about(goal)))
        return written

    def note_about(self, goal):
        telling = self.telling(goal)
        return ("way", goal, telling[0], telling[1], self.beginnings_by[goal])

    def note_about_itself(self):
        return ("way", self.number, self.raised, 0, self.owned)

    def write_own_news(self):
        self.news_written += 1
        return self.to_each(("news", self.number, self.news_written)) + self.raise_number()

    def raise_number(self):
        self.raised += 1
        return self.to_each(self.note_about_itself())

    def to_each(self, note):
        return [(neighbour, note) for neighbour in self.neighbours()]

    def beginnings(self):
        return self.owned

    def neighbours(self):
        return self.ways.neighbours()

    def way(self, goal):
        return self.ways.way(goal)

    def mark(self, goal):
        return self.ways.mark(goal)

    def table(self):
        table = Table()
        for goal in self.ways.goals():
            way = self.way(goal)
            for beginning in self.beginnings_by[goal]:
                table.put(beginning, None if way is None else way[2])
        for beginning in self.owned:
            table.put(beginning, self.number)
        return table

    def look(self, address):
        return self.table().longest(address)
