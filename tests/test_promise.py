"""Houses that are tied to one another: no letter goes round, and at rest all ways are shortest ones."""

import random
import unittest

from posthouse.bits import least
from posthouse.houses import House
from posthouse.marks import better
from posthouse.notes import is_note


class Post:
    """Hands notes on between houses, in the order in which they were written on each tie."""

    def __init__(self, count):
        self.houses = [House(number) for number in range(count)]
        self.lengths = {}
        self.notes = {}
        self.owners = {}

    def send(self, one, written):
        for other, note in written:
            self.notes[(one, other)].append(note)

    def own(self, one, beginning):
        self.owners[beginning] = one
        self.send(one, self.houses[one].own(beginning))

    def come(self, one, other, length):
        for pair in ((one, other), (other, one)):
            self.lengths[pair] = length
            self.notes[pair] = []
        self.send(one, self.houses[one].meet(other, length))
        self.send(other, self.houses[other].meet(one, length))

    def fall(self, one, other):
        for pair in ((one, other), (other, one)):
            del self.lengths[pair]
            del self.notes[pair]
        self.send(one, self.houses[one].lose(other))
        self.send(other, self.houses[other].lose(one))

    def waiting(self):
        return [pair for pair in sorted(self.notes) if self.notes[pair]]

    def carry(self, one, other):
        self.send(other, self.houses[other].hear(one, self.notes[(one, other)].pop(0)))

    def fars(self, start):
        fars = {start: 0}
        for turn in self.houses:
            for (one, other), length in self.lengths.items():
                if one in fars and fars[one] + length < fars.get(other, 10 ** 9):
                    fars[other] = fars[one] + length
        return fars


class Promise(unittest.TestCase):
    def check_notes(self, post):
        for notes in post.notes.values():
            for note in notes:
                self.assertTrue(is_note(note), note)

    def check_marks_along_ways(self, post):
        for house in post.houses:
            for goal in post.houses:
                way = house.way(goal.number)
                if way is not None and way[2] != goal.number:
                    by = post.houses[way[2]]
                    self.assertTrue(better(by.mark(goal.number), house.mark(goal.number)))
                elif way is not None:
                    self.assertLessEqual(house.mark(goal.number)[0], goal.raised)

    def check_no_ring(self, post):
        for house in post.houses:
            for beginning in post.owners:
                passed = [house.number]
                row = house.look(least(beginning))
                while row is not None and row[1] not in (None, passed[-1]):
                    self.assertNotIn(row[1], passed)
                    passed.append(row[1])
                    row = post.houses[row[1]].look(least(beginning))

    def check_state(self, post):
        self.check_notes(post)
        self.check_marks_along_ways(post)
        self.check_no_ring(post)

    def check_rest(self, post):
        for house in post.houses:
            wanted = {}
            for goal in post.houses:
                fars = post.fars(goal.number)
                if goal.number == house.number:
                    due = house.number
                elif house.number not in fars:
                    self.assertIsNone(house.way(goal.number))
                    continue
                else:
                    ties = [(length, other) for (one, other), length in post.lengths.items() if one == house.number]
                    ways = [(length + fars[other], other) for length, other in ties]
                    self.assertEqual(house.way(goal.number)[1:], min(ways))
                    due = min(ways)[1]
                wanted.update({beginning: due for beginning, owner in post.owners.items() if owner == goal.number})
            rows = dict(row for row in house.table().rows() if row[1] is not None)
            self.assertEqual(rows, wanted)

    def carry_some(self, post, chance, most):
        carried = 0
        while post.waiting() and carried != most:
            post.carry(*chance.choice(post.waiting()))
            self.check_state(post)
            carried += 1

    def do_something(self, post, chance):
        one, other = chance.sample(range(len(post.houses)), 2)
        kind = chance.randrange(4)
        beginning = (chance.randrange(8), 3)
        if kind == 0 and beginning not in post.owners:
            post.own(one, beginning)
        elif kind in (1, 2) and (one, other) not in post.lengths:
            post.come(one, other, chance.choice((1, 1, 2, 3, 99)))
        elif kind == 3 and post.lengths:
            post.fall(*chance.choice(sorted(post.lengths)))

    def test_some_nets(self):
        for seed in range(40):
            with self.subTest(seed=seed):
                chance = random.Random(seed)
                post = Post(chance.randrange(2, 7))
                for step in range(12):
                    self.do_something(post, chance)
                    self.check_state(post)
                    self.carry_some(post, chance, chance.choice((0, 1, 5, 20, -1)))
                self.carry_some(post, chance, -1)
                self.check_rest(post)


if __name__ == "__main__":
    unittest.main()
