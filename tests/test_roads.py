import unittest

from net_states import NO_NUMBERS, done, state
from posthouse.errors import NoHouse
from posthouse.nets import Net
from posthouse.picks import by_turns, first_of, last_of
from posthouse.roads import road, stairs

LOW = (0, 1)
HIGH = (1, 1)


def line(*owned):
    """Four houses in a row, at rest; each of owned is a house and a beginning."""
    net = done(4, *[("own", house, beginning) for house, beginning in owned])
    for tie in (("come", 0, 1, 5), ("come", 1, 2, 6), ("come", 2, 3, 1)):
        net.do(tie)
    net.rest(first_of)
    return net


class RoadTest(unittest.TestCase):
    def check_road(self, net, house, address, wanted):
        ahead = state(net)
        self.assertEqual(road(net, house, address), wanted)
        self.assertEqual(state(net), ahead)


class Roads(RoadTest):
    def test_here_at_the_house_itself(self):
        net = line((2, LOW))
        self.check_road(net, 2, 0, ([2], "here"))
        self.check_road(net, 2, 32767, ([2], "here"))
        self.check_road(done(1, ("own", 0, (7, 16))), 0, 7, ([0], "here"))

    def test_here_behind_several(self):
        net = line((3, LOW), (0, HIGH))
        self.check_road(net, 0, 0, ([0, 1, 2, 3], "here"))
        self.check_road(net, 2, 5, ([2, 3], "here"))
        self.check_road(net, 3, 65535, ([3, 2, 1, 0], "here"))

    def test_house_0_is_no_other_than_the_rest(self):
        net = line((0, (0, 0)))
        self.check_road(net, 0, 0, ([0], "here"))
        self.check_road(net, 1, 0, ([1, 0], "here"))

    def test_lost_where_nobody_owns_it(self):
        net = line((2, LOW))
        for house in range(4):
            self.check_road(net, house, 32768, ([house], "lost"))
        self.check_road(Net(1), 0, 0, ([0], "lost"))

    def test_lost_as_long_as_no_note_has_come(self):
        net = done(2, ("own", 1, LOW), ("come", 0, 1, 5))
        self.check_road(net, 0, 0, ([0], "lost"))
        net.do(("carry", 1, 0))
        self.check_road(net, 0, 0, ([0, 1], "here"))

    def test_held_at_the_house_itself(self):
        net = line((3, LOW))
        net.do(("fall", 2, 3))
        self.check_road(net, 2, 0, ([2], "held"))
        net.rest(first_of)
        for house in range(3):
            self.check_road(net, house, 0, ([house], "held"))
        self.check_road(net, 3, 0, ([3], "here"))

    def test_held_behind_several(self):
        net = line((3, LOW))
        net.do(("fall", 3, 2))
        self.check_road(net, 0, 0, ([0, 1, 2], "held"))
        self.check_road(net, 1, 0, ([1, 2], "held"))
        net.do(("carry", 2, 1))
        self.check_road(net, 0, 0, ([0, 1], "held"))

    def test_the_longest_beginning_counts(self):
        net = line((0, (0, 0)), (1, (1, 1)), (3, (3, 2)))
        self.check_road(net, 2, 0, ([2, 1, 0], "here"))
        self.check_road(net, 2, 32768, ([2, 1], "here"))
        self.check_road(net, 2, 49152, ([2, 3], "here"))
        self.check_road(net, 0, 49152, ([0, 1, 2, 3], "here"))
        self.check_road(net, 1, 32768, ([1], "here"))

    def test_the_longest_beginning_counts_though_it_is_held(self):
        net = line((0, (0, 0)), (3, HIGH))
        net.do(("fall", 2, 3))
        net.rest(first_of)
        self.check_road(net, 1, 0, ([1, 0], "here"))
        self.check_road(net, 1, 32768, ([1], "held"))
        self.check_road(net, 0, 32768, ([0], "held"))

    def test_a_house_on_the_road_may_know_a_longer_beginning(self):
        net = line((2, (0, 0)))
        net.do(("own", 3, (0, 16)))
        self.check_road(net, 0, 0, ([0, 1, 2], "here"))
        net.do(("carry", 3, 2))
        self.check_road(net, 0, 0, ([0, 1, 2, 3], "here"))
        self.check_road(net, 0, 1, ([0, 1, 2], "here"))

    def test_by_the_tables_as_they_are_though_a_shorter_way_came(self):
        net = line((3, LOW))
        net.do(("come", 0, 3, 1))
        self.check_road(net, 0, 0, ([0, 1, 2, 3], "here"))
        net.rest(first_of)
        self.check_road(net, 0, 0, ([0, 3], "here"))

    def test_a_pair_of_a_list_and_a_word_that_is_new_each_time(self):
        net = line((3, LOW))
        found = road(net, 0, 0)
        self.assertEqual([type(found)] + [type(part) for part in found], [tuple, list, str])
        found[0].clear()
        self.check_road(net, 0, 0, ([0, 1, 2, 3], "here"))

    def test_whatever_is_not_the_number_of_a_house(self):
        for count in (1, 2, 4, 32):
            net = done(count, ("own", 0, (0, 0)))
            ahead = state(net)
            for thing in (count, count + 1, -1, -count) + NO_NUMBERS:
                with self.assertRaises(NoHouse) as caught:
                    road(net, thing, 0)
                self.assertIs(caught.exception.__class__, NoHouse)
            self.assertEqual(state(net), ahead)


class RoadsThatNoNetHas(RoadTest):
    """What deeds never lead to: houses of a net are told what nobody knows."""

    def test_ring_of_two(self):
        net = done(4, ("come", 0, 1, 5))
        net.house(0).hear(1, ("way", 3, 5, 2, (LOW,)))
        net.house(1).hear(0, ("way", 3, 5, 2, (LOW,)))
        self.check_road(net, 0, 0, ([0, 1], "ring"))
        self.check_road(net, 1, 0, ([1, 0], "ring"))

    def test_ring_that_comes_back_behind_the_first_house(self):
        net = done(5, ("come", 0, 1, 5), ("come", 1, 2, 6), ("come", 2, 3, 7), ("come", 1, 3, 8))
        for house, neighbour in ((0, 1), (1, 2), (2, 3), (3, 1)):
            net.house(house).hear(neighbour, ("way", 4, 5, 2, (LOW,)))
        self.check_road(net, 0, 0, ([0, 1, 2, 3], "ring"))
        self.check_road(net, 3, 0, ([3, 1, 2], "ring"))

    def test_lost_behind_another(self):
        net = done(4, ("come", 0, 1, 5))
        net.house(0).hear(1, ("way", 3, 5, 2, (LOW,)))
        self.check_road(net, 0, 0, ([0, 1], "lost"))


class Stairs(unittest.TestCase):
    def check_all(self, net):
        for goal in range(net.count()):
            self.assertIs(stairs(net, goal), True)

    def test_behind_each_deed(self):
        for pick in (first_of, last_of, by_turns(1)):
            net = Net(4)
            self.check_all(net)
            for deed in (
                ("own", 3, LOW), ("come", 0, 1, 5), ("come", 1, 2, 6), ("come", 2, 3, 1), ("come", 0, 3, 9), ("fall", 2, 3),
                ("own", 0, HIGH), ("come", 2, 0, 3), ("fall", 0, 3), ("come", 3, 2, 99), ("fall", 1, 2), ("fall", 0, 1),
            ):
                net.do(deed)
                self.check_all(net)
                for turn in range(7):
                    net.rest(pick, 1)
                    self.check_all(net)
            while net.rest(pick, 1) == 1:
                self.check_all(net)

    def test_the_net_stays(self):
        net = line((3, LOW))
        ahead = state(net)
        self.check_all(net)
        self.assertEqual(state(net), ahead)

    def test_whatever_is_not_the_number_of_a_house(self):
        for count in (1, 2, 4, 32):
            net = Net(count)
            for thing in (count, count + 1, -1, -count) + NO_NUMBERS:
                with self.assertRaises(NoHouse) as caught:
                    stairs(net, thing)
                self.assertIs(caught.exception.__class__, NoHouse)

    def test_no_house_has_a_way(self):
        net = line((3, LOW))
        net.do(("fall", 2, 3))
        net.rest(first_of)
        self.assertEqual([net.house(number).way(3) for number in range(3)], [None] * 3)
        self.assertIs(stairs(net, 3), True)


class StairsThatNoNetHas(unittest.TestCase):
    """What deeds never lead to: houses of a net are told what nobody knows."""

    def told(self, *heard):
        """House 0 is told by 1 that 3 is 20 away, with the number 5; heard is what 1 is told by 2."""
        net = done(4, ("come", 0, 1, 5), ("come", 1, 2, 6))
        net.house(0).hear(1, ("way", 3, 5, 20, ()))
        for number, far in heard:
            net.house(1).hear(2, ("way", 3, number, far, ()))
        # Only the first step is looked at here, so the one behind it goes.
        if heard:
            net.house(1).hear(2, ("way", 3, 1, None, ()))
        return net

    def test_a_neighbour_without_a_mark(self):
        self.assertIs(stairs(self.told(), 3), False)

    def test_a_mark_with_a_greater_number(self):
        self.assertIs(stairs(self.told((6, 90)), 3), True)

    def test_a_mark_with_a_lesser_number(self):
        self.assertIs(stairs(self.told((4, 0)), 3), False)

    def test_a_mark_with_the_same_number(self):
        # The least of 0 is 25, that of 1 is 6 more than what it is told.
        self.assertIs(stairs(self.told((5, 18)), 3), True)
        self.assertIs(stairs(self.told((5, 19)), 3), False)
        self.assertIs(stairs(self.told((5, 20)), 3), False)

    def test_the_mark_counts_and_not_the_way(self):
        # The way of 1 is 96 long in the end, its mark has the 16 that it once was.
        net = done(4, ("come", 0, 1, 5), ("come", 1, 2, 6), ("come", 3, 1, 96))
        net.house(0).hear(1, ("way", 3, 5, 20, ()))
        net.house(1).hear(2, ("way", 3, 5, 10, ()))
        net.house(1).hear(3, ("way", 3, 5, 0, ()))
        net.house(1).hear(2, ("way", 3, 5, None, ()))
        net.house(3).raised = 5
        self.assertEqual((net.house(1).way(3), net.house(1).mark(3)), ((5, 96, 3), (5, 16)))
        self.assertIs(stairs(net, 3), True)

    def test_one_bad_step_among_good_ones(self):
        net = line()
        self.assertIs(stairs(net, 3), True)
        net.house(0).hear(1, ("way", 3, 100, 2, ()))
        self.assertIs(stairs(net, 3), False)
        self.assertIs(stairs(net, 2), True)
        self.assertIs(stairs(net, 1), True)

    def test_a_bad_step_behind_the_first_house(self):
        net = line()
        net.house(1).hear(2, ("way", 3, 100, 2, ()))
        self.assertIs(stairs(net, 3), False)

    def test_the_goal_as_the_neighbour(self):
        for more, wanted in ((-1, True), (0, True), (1, False), (100, False)):
            net = done(2, ("come", 0, 1, 5), ("own", 1, LOW), ("own", 1, HIGH))
            net.house(0).hear(1, ("way", 1, net.house(1).raised + more, 0, ()))
            with self.subTest(more=more):
                self.assertIs(stairs(net, 1), wanted)
                self.assertIs(stairs(net, 0), True)


if __name__ == "__main__":
    unittest.main()
