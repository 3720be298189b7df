import itertools
import random
import unittest

from net_states import NO_NUMBERS, done, state
from posthouse.bits import in_order
from posthouse.errors import NoHouse
from posthouse.nets import Net
from posthouse.picks import first_of
from posthouse.shortest import due_rows, due_way, fars

LINE = [(0, 1, 5), (1, 2, 6), (2, 3, 1)]
PARTS = [(0, 2, 7), (1, 5, 9), (2, 4, 1), (5, 6, 9)]
# The straight tie from 0 to 3 is longer than the way of three ties.
BENT = [(0, 1, 1), (0, 3, 9), (1, 2, 1), (2, 3, 1)]
# Three ways of 4 from 0 to 4, each by another neighbour.
EVEN = [(0, 1, 3), (0, 2, 2), (0, 3, 1), (1, 4, 1), (2, 4, 2), (3, 4, 3)]


def some_ties(chance, count):
    """Triples as a net's ties are listed: the lesser house first, rising."""
    pairs = [pair for pair in itertools.combinations(range(count), 2) if chance.random() < 0.5]
    return [pair + (chance.choice((1, 1, 2, 3, 99)),) for pair in pairs]


def all_ways(ties, house, goal):
    """Each way that passes no house twice, as its length and its houses."""
    length_by = {}
    for one, other, length in ties:
        length_by[(one, other)] = length
        length_by[(other, one)] = length
    others = sorted({number for tie in ties for number in tie[:2]} - {house, goal})
    found = []
    for many in range(len(others) + 1):
        for between in itertools.permutations(others, many):
            steps = list(zip((house,) + between, between + (goal,)))
            if all(step in length_by for step in steps):
                found.append((sum(length_by[step] for step in steps), (house,) + between + (goal,)))
    return found


class Fars(unittest.TestCase):
    def test_no_ties(self):
        for start in (0, 7, 31):
            self.assertEqual(fars([], start), {start: 0})

    def test_a_house_without_ties(self):
        self.assertEqual(fars(LINE, 9), {9: 0})
        self.assertEqual(fars(PARTS, 3), {3: 0})

    def test_a_line(self):
        self.assertEqual(fars(LINE, 0), {0: 0, 1: 5, 2: 11, 3: 12})
        self.assertEqual(fars(LINE, 2), {0: 11, 1: 6, 2: 0, 3: 1})

    def test_only_houses_that_hang_together(self):
        self.assertEqual(fars(PARTS, 0), {0: 0, 2: 7, 4: 8})
        self.assertEqual(fars(PARTS, 4), {0: 8, 2: 1, 4: 0})
        self.assertEqual(fars(PARTS, 5), {1: 9, 5: 0, 6: 9})

    def test_more_ties_may_be_shorter(self):
        self.assertEqual(fars(BENT, 0), {0: 0, 1: 1, 2: 2, 3: 3})
        self.assertEqual(fars(BENT, 3), {0: 3, 1: 2, 2: 1, 3: 0})

    def test_more_ties_may_be_longer(self):
        self.assertEqual(fars([(0, 1, 50), (0, 2, 99), (1, 2, 50)], 0), {0: 0, 1: 50, 2: 99})

    def test_several_ways_of_the_same_length(self):
        self.assertEqual(fars(EVEN, 0), {0: 0, 1: 3, 2: 2, 3: 1, 4: 4})

    def test_a_way_that_is_found_late_and_is_shorter(self):
        ties = [(0, 1, 2), (0, 2, 90), (0, 3, 80), (1, 3, 70), (2, 3, 1)]
        self.assertEqual(fars(ties, 0), {0: 0, 1: 2, 2: 73, 3: 72})

    def test_the_longest_lengths(self):
        line = [(number, number + 1, 99) for number in range(31)]
        self.assertEqual(fars(line, 0), {number: 99 * number for number in range(32)})
        self.assertEqual(fars(line, 31), {number: 99 * (31 - number) for number in range(32)})

    def test_the_order_of_the_ties_is_nothing(self):
        for ties in itertools.permutations(BENT):
            self.assertEqual(fars(list(ties), 0), {0: 0, 1: 1, 2: 2, 3: 3})

    def test_a_dict_that_is_new_each_time(self):
        ties = list(LINE)
        first = fars(ties, 0)
        self.assertIs(type(first), dict)
        first[0] = 7
        first.pop(3)
        self.assertEqual(fars(ties, 0), {0: 0, 1: 5, 2: 11, 3: 12})
        kept = fars(ties, 0)
        ties.append((3, 4, 1))
        self.assertEqual(kept, {0: 0, 1: 5, 2: 11, 3: 12})
        self.assertEqual(fars(ties, 0)[4], 13)

    def test_the_list_that_is_handed_in_stays(self):
        for ties in (LINE, PARTS, BENT, EVEN):
            handed = list(ties)
            fars(handed, 0)
            self.assertEqual(handed, ties)

    def test_whole_numbers(self):
        for house, far in fars(EVEN, 4).items():
            self.assertEqual((type(house), type(far)), (int, int))

    def test_against_all_ways(self):
        for seed in range(40):
            chance = random.Random(seed)
            ties = some_ties(chance, 6)
            for start in range(6):
                wanted = {start: 0}
                for goal in range(6):
                    lengths = [length for length, houses in all_ways(ties, start, goal) if goal != start]
                    if lengths:
                        wanted[goal] = min(lengths)
                with self.subTest(seed=seed, start=start):
                    self.assertEqual(fars(ties, start), wanted)


class DueWay(unittest.TestCase):
    def test_neighbours(self):
        self.assertEqual(due_way(LINE, 0, 1), (5, 1))
        self.assertEqual(due_way(LINE, 1, 0), (5, 0))
        self.assertEqual(due_way(LINE, 3, 2), (1, 2))

    def test_far_goals(self):
        self.assertEqual(due_way(LINE, 0, 3), (12, 1))
        self.assertEqual(due_way(LINE, 3, 0), (12, 2))
        self.assertEqual(due_way(LINE, 1, 3), (7, 2))

    def test_a_neighbour_to_which_another_way_is_shorter(self):
        self.assertEqual(due_way(BENT, 0, 3), (3, 1))
        self.assertEqual(due_way(BENT, 3, 0), (3, 2))

    def test_of_several_the_least_neighbour(self):
        self.assertEqual(due_way(EVEN, 0, 4), (4, 1))
        self.assertEqual(due_way(EVEN, 4, 0), (4, 1))
        self.assertEqual(due_way(EVEN[1:], 0, 4), (4, 2))
        self.assertEqual(due_way(EVEN[1:], 4, 0), (4, 2))

    def test_the_goal_as_one_of_several_neighbours(self):
        self.assertEqual(due_way([(0, 1, 2), (0, 2, 1), (1, 2, 1)], 0, 1), (2, 1))
        self.assertEqual(due_way([(0, 1, 1), (0, 2, 2), (1, 2, 1)], 0, 2), (2, 1))

    def test_the_least_neighbour_is_passed_over_where_it_is_longer(self):
        self.assertEqual(due_way([(0, 1, 1), (0, 2, 2), (1, 3, 3), (2, 3, 1)], 0, 3), (3, 2))

    def test_a_neighbour_whose_way_comes_back(self):
        # The one from 1 to 3 goes by 0, so 1 is none of those by which one goes.
        self.assertEqual(due_way([(0, 1, 1), (0, 2, 1), (2, 3, 1)], 0, 3), (2, 2))

    def test_none_where_none_leads_there(self):
        for ties, house, goal in (([], 0, 1), (LINE, 0, 4), (LINE, 4, 0), (LINE, 8, 9), (PARTS, 0, 1), (PARTS, 6, 4)):
            self.assertIsNone(due_way(ties, house, goal))

    def test_a_pair(self):
        found = due_way(EVEN, 0, 4)
        self.assertIs(type(found), tuple)
        self.assertEqual([type(part) for part in found], [int, int])

    def test_the_list_that_is_handed_in_stays(self):
        for ties in (LINE, PARTS, BENT, EVEN):
            handed = list(ties)
            due_way(handed, 0, 2)
            due_way(handed, 0, 9)
            self.assertEqual(handed, ties)

    def test_against_all_ways(self):
        for seed in range(40):
            chance = random.Random(seed)
            ties = some_ties(chance, 6)
            for house, goal in itertools.permutations(range(6), 2):
                ways = all_ways(ties, house, goal)
                wanted = min(((length, houses[1]) for length, houses in ways), default=None)
                with self.subTest(seed=seed, house=house, goal=goal):
                    self.assertEqual(due_way(ties, house, goal), wanted)


class DueRows(unittest.TestCase):
    def a_net(self):
        return done(
            6, ("own", 0, (3, 3)), ("own", 0, (0, 0)), ("own", 1, (1, 1)), ("own", 2, (0, 1)), ("own", 2, (2, 2)),
            ("own", 4, (1, 16)), ("own", 5, (0, 16)), ("come", 0, 1, 5), ("come", 1, 2, 6), ("come", 4, 3, 1),
        )

    def test_nothing_is_owned(self):
        self.assertEqual(due_rows(Net(1), 0), [])
        self.assertEqual(due_rows(done(3, ("come", 0, 1, 5)), 0), [])

    def test_what_the_house_owns(self):
        net = done(2, ("own", 1, (1, 1)), ("own", 1, (0, 0)))
        self.assertEqual(due_rows(net, 1), [((0, 0), 1), ((1, 1), 1)])
        self.assertEqual(due_rows(net, 0), [])

    def test_what_others_own_by_the_neighbour_of_due_way(self):
        net = self.a_net()
        self.assertEqual(
            due_rows(net, 0), [((0, 0), 0), ((0, 1), 1), ((3, 3), 0), ((1, 1), 1), ((2, 2), 1)],
        )
        self.assertEqual(
            due_rows(net, 1), [((0, 0), 0), ((0, 1), 2), ((3, 3), 0), ((1, 1), 1), ((2, 2), 2)],
        )
        self.assertEqual(
            due_rows(net, 2), [((0, 0), 1), ((0, 1), 2), ((3, 3), 1), ((1, 1), 1), ((2, 2), 2)],
        )

    def test_none_of_those_to_which_no_way_leads(self):
        net = self.a_net()
        self.assertEqual(due_rows(net, 3), [((1, 16), 4)])
        self.assertEqual(due_rows(net, 4), [((1, 16), 4)])
        self.assertEqual(due_rows(net, 5), [((0, 16), 5)])

    def test_the_notes_on_their_way_are_nothing_to_it(self):
        net = self.a_net()
        ahead = [due_rows(net, number) for number in range(6)]
        net.rest(first_of)
        self.assertEqual([due_rows(net, number) for number in range(6)], ahead)

    def test_a_tie_that_falls(self):
        net = self.a_net()
        net.rest(first_of)
        net.do(("fall", 1, 2))
        self.assertEqual(due_rows(net, 0), [((0, 0), 0), ((3, 3), 0), ((1, 1), 1)])
        self.assertEqual(due_rows(net, 2), [((0, 1), 2), ((2, 2), 2)])

    def test_of_several_neighbours_the_least(self):
        net = Net(5)
        net.do(("own", 4, (0, 0)))
        for one, other, length in reversed(EVEN):
            net.do(("come", other, one, length))
        self.assertEqual(due_rows(net, 0), [((0, 0), 1)])

    def test_in_order(self):
        chance = random.Random(4)
        net = Net(4)
        beginnings = [(bits, size) for size in range(4) for bits in range(1 << size)]
        chance.shuffle(beginnings)
        for place, beginning in enumerate(beginnings):
            net.do(("own", place % 4, beginning))
        for other in (1, 2, 3):
            net.do(("come", 0, other, other))
        for number in range(4):
            self.assertEqual([row[0] for row in due_rows(net, number)], in_order(beginnings))

    def test_a_list_of_pairs_that_is_new_each_time(self):
        net = self.a_net()
        ahead = state(net)
        first = due_rows(net, 0)
        self.assertIs(type(first), list)
        self.assertEqual({type(row) for row in first}, {tuple})
        kept = list(first)
        first.clear()
        self.assertEqual(due_rows(net, 0), kept)
        self.assertEqual(state(net), ahead)

    def test_whatever_is_not_the_number_of_a_house(self):
        for count in (1, 2, 6, 32):
            net = Net(count)
            for thing in (count, count + 1, -1, -count) + NO_NUMBERS:
                with self.assertRaises(NoHouse) as caught:
                    due_rows(net, thing)
                self.assertIs(caught.exception.__class__, NoHouse)


if __name__ == "__main__":
    unittest.main()
