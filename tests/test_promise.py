"""A net: no letter goes round, and when no note is on its way all ways are shortest ones."""

import random
import unittest

from posthouse.marks import better
from posthouse.nets import Net
from posthouse.picks import by_turns, first_of, last_of
from posthouse.roads import road, stairs
from posthouse.shortest import due_rows, due_way

# Far more than the nets here take: a rest that carries more is taken for one without end.
TOO_MANY = 400000


# Beginnings within one another.
BEGINNINGS = [(bits, size) for size in range(4) for bits in range(1 << size)]


def reckoned_fars(net, start):
    result = {start: 0}
    for turn in range(net.count()):
        for one, other, length in net.ties():
            for near, far in ((one, other), (other, one)):
                if near in result and result[near] + length < result.get(far, 10 ** 9):
                    result[far] = result[near] + length
    return result


def reckoned_way(net, number, goal):
    """The same as due_way, found in another manner."""
    reached = reckoned_fars(net, goal)
    if number not in reached:
        return None
    steps = [(length, other) for one, other, length in net.ties() if one == number]
    steps += [(length, one) for one, other, length in net.ties() if other == number]
    return min((length + reached[by], by) for length, by in steps if by in reached)


def guarded(pick):
    asked = []

    def guard(waiting):
        asked.append(True)
        if len(asked) > TOO_MANY:
            raise AssertionError("rest doesn't end")
        return pick(waiting)

    return guard


def by_chance(seed):
    chance = random.Random(seed)
    return lambda waiting: chance.randrange(-1000, 1000)


def seldom(waiting):
    # House 0 hears and is heard only when nothing else is on its way.
    places = [place for place, way in enumerate(waiting) if 0 not in way]
    return places[0] if places else -1


def to_and_fro():
    answers = []

    def pick(waiting):
        answers.append(True)
        return len(answers) ** 2 * (-1) ** len(answers)

    return pick


def pickings(seed):
    return (
        first_of, last_of, by_turns(seed), by_turns(-seed), by_chance(seed), seldom, to_and_fro(),
        lambda waiting: len(waiting) // 2,
    )


class NetTest(unittest.TestCase):
    def check_marks_along_ways(self, net):
        houses = [net.house(number) for number in range(net.count())]
        for house in houses:
            for goal in houses:
                way = house.way(goal.number)
                if way is not None and way[2] != goal.number:
                    by = houses[way[2]]
                    self.assertTrue(better(by.mark(goal.number), house.mark(goal.number)))
                elif way is not None:
                    self.assertLessEqual(house.mark(goal.number)[0], goal.raised)

    def check_no_ring(self, net):
        owned = [beginning for number in range(net.count()) for beginning in net.house(number).beginnings()]
        # Each address that isn't named here has the same rows everywhere as one that is.
        step = 65536 >> max([size for bits, size in owned], default=0)
        for number in range(net.count()):
            for address in range(0, 65536, step):
                houses, word = road(net, number, address)
                self.assertIn(word, ("here", "held", "lost"))
                self.assertEqual(houses[0], number)
                self.assertEqual(len(set(houses)), len(houses))

    def check_stairs(self, net):
        for goal in range(net.count()):
            self.assertIs(stairs(net, goal), True)
        self.check_marks_along_ways(net)

    def check_state(self, net):
        self.check_stairs(net)
        self.check_no_ring(net)

    def check_rest(self, net):
        self.assertEqual(net.waiting(), [])
        self.check_state(net)
        ties = net.ties()
        for number in range(net.count()):
            house = net.house(number)
            wanted = {beginning: number for beginning in house.beginnings()}
            for goal in range(net.count()):
                if goal == number:
                    continue
                due = due_way(ties, number, goal)
                self.assertEqual(due, reckoned_way(net, number, goal))
                if due is None:
                    self.assertIsNone(house.way(goal))
                    continue
                self.assertEqual(house.way(goal)[1:], due)
                wanted.update({beginning: due[1] for beginning in net.house(goal).beginnings()})
            rows = [row for row in house.table().rows() if row[1] is not None]
            self.assertEqual(rows, due_rows(net, number))
            self.assertEqual(dict(rows), wanted)

    def carry_some(self, net, pick, most):
        carried = 0
        while net.waiting() and carried != most:
            self.assertEqual(net.rest(pick, 1), 1)
            self.check_state(net)
            carried += 1

    def do_something(self, net, chance):
        one, other = chance.sample(range(net.count()), 2)
        kind = chance.randrange(4)
        beginning = chance.choice(BEGINNINGS)
        owned = [beginning for number in range(net.count()) for beginning in net.house(number).beginnings()]
        tied = [tie[:2] for tie in net.ties()]
        if kind == 0 and beginning not in owned:
            net.do(("own", one, beginning))
        elif kind in (1, 2) and (min(one, other), max(one, other)) not in tied:
            net.do(("come", one, other, chance.choice((1, 1, 2, 3, 99))))
        elif kind == 3 and tied:
            net.do(("fall",) + chance.choice(tied))


class BehindEachDeed(NetTest):
    def test_some_nets(self):
        for seed in range(40):
            with self.subTest(seed=seed):
                chance = random.Random(seed)
                net = Net(chance.randrange(2, 7))
                pick = guarded(chance.choice(pickings(seed)))
                for step in range(12):
                    self.do_something(net, chance)
                    self.check_state(net)
                    self.carry_some(net, pick, chance.choice((0, 1, 5, 20, -1)))
                self.carry_some(net, pick, -1)
                self.check_rest(net)


class AtRest(NetTest):
    def test_each_picking_from_some_states(self):
        for seed in range(24):
            for number, pick in enumerate(pickings(seed)):
                with self.subTest(seed=seed, pick=number):
                    chance = random.Random(seed)
                    net = Net(chance.randrange(2, 9))
                    guard = guarded(pick)
                    for step in range(20):
                        self.do_something(net, chance)
                        net.rest(guard, chance.choice((0, 0, 1, 3, 30)))
                    net.rest(guard)
                    self.check_rest(net)

    def test_one_house(self):
        net = Net(1)
        net.do(("own", 0, (0, 1)))
        self.assertEqual(net.rest(first_of), 0)
        self.check_rest(net)

    def test_two_ways_that_are_as_short_go_by_the_least_neighbour(self):
        for pick in pickings(3):
            net = Net(5)
            for one, other, length in ((0, 3, 1), (0, 2, 2), (0, 1, 3), (3, 4, 3), (2, 4, 2), (1, 4, 1)):
                net.do(("come", one, other, length))
            net.rest(guarded(pick))
            self.assertEqual(net.house(0).way(4)[1:], (4, 1))
            self.assertEqual(net.house(4).way(0)[1:], (4, 1))
            self.check_rest(net)

    def test_a_goal_to_which_no_tie_leads_any_more(self):
        for pick in pickings(5):
            guard = guarded(pick)
            net = Net(5)
            net.do(("own", 4, (0, 0)))
            for one, other in ((0, 1), (1, 2), (2, 0), (2, 3), (3, 4)):
                net.do(("come", one, other, 1))
            net.rest(guard)
            self.assertEqual(net.house(0).way(4)[1:], (3, 2))
            net.do(("fall", 2, 3))
            net.rest(guard)
            self.assertEqual([net.house(number).way(4) for number in (0, 1, 2)], [None] * 3)
            self.check_rest(net)
            net.do(("come", 3, 1, 9))
            net.rest(guard)
            self.assertEqual(net.house(0).way(4)[1:], (11, 1))
            self.check_rest(net)

    def test_a_tie_that_falls_and_comes_again_with_another_length(self):
        for pick in pickings(7):
            guard = guarded(pick)
            net = Net(3)
            for tie in (("come", 0, 1, 5), ("come", 1, 2, 5), ("come", 0, 2, 9)):
                net.do(tie)
            net.rest(guard)
            self.assertEqual(net.house(0).way(2)[1:], (9, 2))
            for length, due in ((99, (10, 1)), (10, (10, 1)), (1, (1, 2))):
                net.do(("fall", 2, 0))
                net.do(("come", 0, 2, length))
                net.rest(guard, 4)
                net.rest(guard)
                self.assertEqual(net.house(0).way(2)[1:], due)
                self.check_rest(net)

    def check_large(self, count, ties, falls, pick):
        net = Net(count)
        guard = guarded(pick)
        for number in range(count):
            net.do(("own", number, (number, 5)))
        for one, other in ties:
            net.do(("come", one, other, 1 + (7 * one + other) % 9))
            self.check_stairs(net)
            net.rest(guard, 20)
            self.check_stairs(net)
        self.check_state(net)
        net.rest(guard)
        self.check_rest(net)
        for one, other in falls:
            net.do(("fall", one, other))
            self.check_state(net)
        net.rest(guard, 100)
        self.check_state(net)
        net.rest(guard)
        self.check_rest(net)

    def test_a_ring_of_32(self):
        ring = [(number, (number + 1) % 32) for number in range(32)]
        self.check_large(32, ring, [(4, 5)], by_turns(0))

    def test_a_star_of_32(self):
        star = [(number, 13) for number in range(32) if number != 13]
        self.check_large(32, star, [(31, 13), (13, 0)], first_of)

    def test_a_grid_of_16(self):
        grid = [(place, place + 1) for place in range(16) if place % 4 != 3]
        grid += [(place, place + 4) for place in range(12)]
        self.check_large(16, grid, [(5, 6), (9, 5), (0, 1)], last_of)

    def test_all_tied_to_all(self):
        pairs = [(one, other) for one in range(7) for other in range(one)]
        self.check_large(7, pairs, pairs[::3], by_chance(7))


if __name__ == "__main__":
    unittest.main()
