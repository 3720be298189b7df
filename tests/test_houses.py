import unittest

from posthouse.errors import NoNote, NotTied, Owned, Tied
from posthouse.houses import House
from posthouse.tables import Table

A = (0, 2)
B = (1, 2)
C = (1, 1)

NO_NOTES = (
    None, 0, 1, True, "", "way", [], (), ("way", 2, 5, 1), ("news", 2), ["news", 2, 9], ["way", 2, 5, 1, ()],
    ("way", 2, 5, 1, []), ("way", 2, 5, 1, (B, A)), ("way", 2, 5, 1, (A, A)), ("way", 2, 0, 1, ()),
    ("way", 2, 5, -1, ()), ("way", 32, 5, 1, ()), ("way", -1, 5, 1, ()), ("way", 2, True, 1, ()),
    ("way", 2, 5, False, ()), ("news", 32, 9), ("news", 2, 0), ("news", True, 9), ("news", 2, None), ("mail", 2, 9), ("way", 2, 5, 1, (), ()),
    ("way", 7, 0, 0, ()), ("news", 7, 0), 10 ** 5000,
)


def house_with(number, *neighbours):
    house = House(number)
    for neighbour, length in neighbours:
        house.meet(neighbour, length)
    return house


def shown(house):
    return (
        house.number, house.raised, house.beginnings(), house.neighbours(),
        [(house.way(goal), house.mark(goal)) for goal in range(40)], house.table().rows(),
    )


class AtFirst(unittest.TestCase):
    def test_a_new_house(self):
        for number in (0, 7, 31):
            house = House(number)
            self.assertEqual(house.number, number)
            self.assertEqual(house.raised, 1)
            self.assertEqual(house.beginnings(), ())
            self.assertIs(type(house.beginnings()), tuple)
            self.assertEqual(house.neighbours(), [])
            self.assertEqual(house.table().count(), 0)
            self.assertIsNone(house.look(0))
            for goal in range(32):
                self.assertIsNone(house.way(goal))
                self.assertIsNone(house.mark(goal))

    def test_two_houses_do_not_know_of_each_other(self):
        one = house_with(7, (3, 10))
        other = House(8)
        before = shown(other)
        one.own(A)
        one.hear(3, ("way", 5, 2, 7, (B,)))
        one.hear(3, ("news", 5, 1))
        self.assertEqual(shown(other), before)
        other.meet(3, 1)
        self.assertEqual(other.hear(3, ("news", 5, 1)), [
            (3, ("news", 5, 1)), (3, ("way", 8, 2, 0, ())),
        ])


class Owning(unittest.TestCase):
    def test_without_neighbours(self):
        house = House(7)
        self.assertEqual(house.own(B), [])
        self.assertEqual(house.raised, 2)
        self.assertEqual(house.beginnings(), (B,))

    def test_it_raises_its_number_and_tells_each_neighbour(self):
        house = house_with(7, (5, 1), (2, 1), (3, 9))
        self.assertEqual(house.raised, 1)
        self.assertEqual(house.own(B), [(to, ("way", 7, 2, 0, (B,))) for to in (2, 3, 5)])
        self.assertEqual(house.own(A), [(to, ("way", 7, 3, 0, (A, B))) for to in (2, 3, 5)])
        self.assertEqual(house.raised, 3)

    def test_beginnings_stand_in_order(self):
        house = House(7)
        for beginning in (C, (65535, 16), (3, 3), B, (0, 0), A, (0, 16)):
            house.own(beginning)
        self.assertEqual(house.beginnings(), ((0, 0), A, (0, 16), B, (3, 3), C, (65535, 16)))
        self.assertEqual(house.raised, 8)

    def test_owned_already(self):
        house = house_with(7, (3, 1))
        house.own(A)
        house.own(B)
        before = shown(house)
        for beginning in (A, B):
            with self.assertRaises(Owned):
                house.own(beginning)
            self.assertEqual(shown(house), before)
        self.assertEqual(house.own((0, 3)), [(3, ("way", 7, 4, 0, (A, (0, 3), B)))])

    def test_what_was_told_stays(self):
        house = house_with(7, (3, 1))
        written = house.own(A)
        told = house.beginnings()
        house.own(B)
        self.assertEqual(written, [(3, ("way", 7, 2, 0, (A,)))])
        self.assertEqual(told, (A,))


class Meeting(unittest.TestCase):
    def test_a_lesser_neighbour(self):
        house = House(7)
        house.own(A)
        self.assertEqual(house.meet(3, 4), [(3, ("way", 7, 2, 0, (A,)))])
        self.assertEqual(house.raised, 2)
        self.assertEqual(house.neighbours(), [3])

    def test_a_greater_neighbour(self):
        house = House(7)
        house.own(A)
        self.assertEqual(house.meet(8, 4), [
            (8, ("way", 7, 2, 0, (A,))),
            (8, ("news", 7, 1)),
            (8, ("way", 7, 3, 0, (A,))),
        ])
        self.assertEqual(house.raised, 3)
        self.assertEqual(house.neighbours(), [8])

    def test_the_first_meeting_of_all(self):
        self.assertEqual(House(0).meet(31, 99), [
            (31, ("way", 0, 1, 0, ())), (31, ("news", 0, 1)), (31, ("way", 0, 2, 0, ())),
        ])
        self.assertEqual(House(31).meet(0, 99), [(0, ("way", 31, 1, 0, ()))])

    def test_news_and_the_raised_number_go_to_every_neighbour(self):
        house = house_with(7, (9, 1), (2, 1))
        self.assertEqual(house.raised, 2)
        self.assertEqual(house.meet(8, 4), [
            (8, ("way", 7, 2, 0, ())),
            (2, ("news", 7, 2)), (8, ("news", 7, 2)), (9, ("news", 7, 2)),
            (2, ("way", 7, 3, 0, ())), (8, ("way", 7, 3, 0, ())), (9, ("way", 7, 3, 0, ())),
        ])
        self.assertEqual(house.meet(1, 4), [(1, ("way", 7, 3, 0, ()))])
        self.assertEqual(house.meet(20, 4)[1], (1, ("news", 7, 3)))

    def test_what_it_tells_about_each_goal(self):
        house = house_with(7, (3, 10), (4, 1))
        house.hear(3, ("way", 9, 4, 2, (B,)))
        house.hear(4, ("way", 6, 2, 5, ()))
        house.hear(3, ("way", 3, 8, 0, (A, C)))
        house.hear(4, ("way", 5, 1, None, ()))
        house.hear(3, ("way", 9, 4, None, (B,)))
        self.assertEqual(house.meet(2, 1), [
            (2, ("way", 7, 1, 0, ())),
            (2, ("way", 3, 8, 10, (A, C))),
            (2, ("way", 6, 2, 6, ())),
            (2, ("way", 9, 4, None, (B,))),
        ])

    def test_what_it_tells_the_new_neighbour_about_that_one(self):
        house = house_with(7, (3, 10))
        house.hear(3, ("way", 8, 4, 2, (B,)))
        self.assertEqual(house.meet(8, 1), [
            (8, ("way", 7, 1, 0, ())),
            (8, ("way", 8, 4, 12, (B,))),
            (3, ("news", 7, 1)), (8, ("news", 7, 1)),
            (3, ("way", 7, 2, 0, ())), (8, ("way", 7, 2, 0, ())),
        ])

    def test_a_neighbour_that_comes_again(self):
        house = house_with(7, (3, 10))
        house.hear(3, ("way", 3, 4, 0, (B,)))
        house.lose(3)
        self.assertEqual(house.meet(3, 1), [(3, ("way", 7, 2, 0, ())), (3, ("way", 3, 4, None, (B,)))])
        self.assertIsNone(house.way(3))

    def test_tied_already(self):
        house = house_with(7, (3, 10), (9, 2))
        house.hear(3, ("way", 5, 4, 2, (B,)))
        before = shown(house)
        for neighbour in (3, 9):
            for length in (1, 2, 10):
                with self.assertRaises(Tied):
                    house.meet(neighbour, length)
                self.assertEqual(shown(house), before)
        self.assertEqual(house.meet(10, 1)[2], (3, ("news", 7, 2)))
        self.assertEqual(house.hear(3, ("way", 5, 5, 2, (B,)))[0], (3, ("way", 5, 5, 12, (B,))))


class Losing(unittest.TestCase):
    def test_the_only_neighbour(self):
        house = house_with(7, (3, 10))
        house.hear(3, ("way", 5, 4, 2, (B,)))
        self.assertEqual(house.lose(3), [])
        self.assertEqual(house.raised, 2)
        self.assertEqual(house.neighbours(), [])
        self.assertIsNone(house.way(5))
        self.assertEqual(house.mark(5), (4, 12))
        self.assertEqual(house.meet(8, 1)[2:], [(8, ("news", 7, 2)), (8, ("way", 7, 3, 0, ()))])

    def test_what_it_tells_otherwise_then_news_then_the_raised_number(self):
        house = house_with(7, (3, 10), (4, 1), (6, 20))
        house.own(A)
        house.hear(3, ("way", 9, 4, 2, (B,)))
        house.hear(3, ("way", 2, 3, 1, ()))
        house.hear(6, ("way", 2, 3, 5, ()))
        house.hear(4, ("way", 8, 1, 1, ()))
        house.hear(3, ("way", 8, 1, 1, ()))
        self.assertEqual(house.lose(3), [
            (4, ("way", 2, 3, 25, ())), (6, ("way", 2, 3, 25, ())),
            (4, ("way", 9, 4, None, (B,))), (6, ("way", 9, 4, None, (B,))),
            (4, ("news", 7, 1)), (6, ("news", 7, 1)),
            (4, ("way", 7, 3, 0, (A,))), (6, ("way", 7, 3, 0, (A,))),
        ])
        self.assertEqual(house.raised, 3)

    def test_a_greater_and_a_lesser_neighbour_alike(self):
        for neighbour in (3, 9):
            house = house_with(7, (4, 1), (neighbour, 1))
            # Its number was raised once for each news of its own.
            raised = house.raised
            self.assertEqual(house.lose(neighbour), [
                (4, ("news", 7, raised)), (4, ("way", 7, raised + 1, 0, ())),
            ])

    def test_another_neighbour_with_a_way_as_long(self):
        house = house_with(7, (3, 10), (4, 10))
        house.hear(3, ("way", 9, 4, 2, ()))
        house.hear(4, ("way", 9, 4, 2, ()))
        self.assertEqual(house.way(9), (4, 12, 3))
        self.assertEqual(house.lose(3), [(4, ("news", 7, 1)), (4, ("way", 7, 2, 0, ()))])
        self.assertEqual(house.way(9), (4, 12, 4))

    def test_a_goal_without_a_way_is_not_told_again(self):
        house = house_with(7, (3, 10), (4, 10))
        house.hear(3, ("way", 9, 4, 2, ()))
        house.hear(3, ("way", 9, 4, None, ()))
        self.assertEqual(house.lose(3), [(4, ("news", 7, 1)), (4, ("way", 7, 2, 0, ()))])

    def test_not_tied(self):
        house = house_with(7, (3, 10))
        house.hear(3, ("way", 5, 4, 2, (B,)))
        before = shown(house)
        for neighbour in (0, 4, 5, 7, 31):
            with self.assertRaises(NotTied):
                house.lose(neighbour)
            self.assertEqual(shown(house), before)
        house.lose(3)
        with self.assertRaises(NotTied):
            house.lose(3)
        self.assertEqual(house.raised, 2)
        self.assertEqual(house.meet(9, 1)[2], (9, ("news", 7, 2)))


class Refusals(unittest.TestCase):
    def test_not_tied_ahead_of_no_note(self):
        house = house_with(7, (3, 10))
        before = shown(house)
        for note in NO_NOTES + (("way", 2, 5, 1, ()), ("news", 2, 1), ("way", 7, 5, 1, ()), ("news", 7, 1)):
            with self.assertRaises(NotTied):
                house.hear(2, note)
            with self.assertRaises(NotTied):
                House(7).hear(3, note)
        self.assertEqual(shown(house), before)
        self.assertEqual(len(house.hear(3, ("news", 2, 1))), 2)

    def test_no_note(self):
        house = house_with(7, (3, 10))
        house.hear(3, ("way", 2, 4, 2, (B,)))
        before = shown(house)
        for place, note in enumerate(NO_NOTES):
            with self.subTest(place=place):
                with self.assertRaises(NoNote):
                    house.hear(3, note)
                self.assertEqual(shown(house), before)
        self.assertEqual(len(house.hear(3, ("news", 2, 9))), 2)


class HearingOfWays(unittest.TestCase):
    def test_about_itself(self):
        house = house_with(7, (3, 10), (4, 1))
        house.own(A)
        before = shown(house)
        for number in (1, 2, 3, 50):
            for far in (None, 0, 12):
                self.assertEqual(house.hear(3, ("way", 7, number, far, (B,))), [])
                self.assertEqual(shown(house), before)
        self.assertEqual(house.meet(2, 1), [(2, ("way", 7, 2, 0, (A,)))])

    def test_a_first_note(self):
        house = house_with(7, (5, 10), (3, 1))
        note = ("way", 9, 4, 12, (B,))
        self.assertEqual(house.hear(5, ("way", 9, 4, 2, (B,))), [(3, note), (5, note)])
        self.assertEqual(house.way(9), (4, 12, 5))
        self.assertEqual(house.mark(9), (4, 12))
        self.assertEqual(house.raised, 1)

    def test_a_first_note_that_may_not_be_used(self):
        house = house_with(7, (3, 10))
        self.assertEqual(house.hear(3, ("way", 9, 4, None, (B,))), [])
        self.assertIsNone(house.mark(9))
        self.assertEqual(house.table().count(), 0)

    def test_about_the_neighbour(self):
        house = house_with(7, (3, 10))
        self.assertEqual(house.hear(3, ("way", 3, 1, 0, (A,))), [(3, ("way", 3, 1, 10, (A,)))])

    def test_neither_number_nor_far_changes(self):
        house = house_with(7, (3, 10), (4, 1))
        house.hear(3, ("way", 9, 4, 2, (B,)))
        self.assertEqual(house.hear(3, ("way", 9, 4, 2, (B,))), [])
        self.assertEqual(house.hear(4, ("way", 9, 4, 13, (B,))), [])
        self.assertEqual(house.hear(4, ("way", 9, 3, 0, (B,))), [])
        self.assertEqual(house.hear(4, ("way", 9, 9, None, (B,))), [])
        self.assertEqual(house.way(9), (4, 12, 3))

    def test_the_neighbour_changes_and_the_far_stays(self):
        house = house_with(7, (3, 10), (2, 1))
        house.hear(3, ("way", 9, 4, 2, (B,)))
        self.assertEqual(house.hear(2, ("way", 9, 4, 11, (B,))), [])
        self.assertEqual(house.way(9), (4, 12, 2))

    def test_the_far_changes(self):
        house = house_with(7, (3, 10), (4, 1))
        house.hear(3, ("way", 9, 4, 2, (B,)))
        note = ("way", 9, 4, 6, (B,))
        self.assertEqual(house.hear(4, ("way", 9, 4, 5, (B,))), [(3, note), (4, note)])
        note = ("way", 9, 4, 12, (B,))
        self.assertEqual(house.hear(4, ("way", 9, 4, None, (B,))), [(3, note), (4, note)])
        note = ("way", 9, 4, None, (B,))
        self.assertEqual(house.hear(3, ("way", 9, 4, 6, (B,))), [(3, note), (4, note)])
        self.assertEqual(house.mark(9), (4, 6))

    def test_the_number_changes(self):
        house = house_with(7, (3, 10), (4, 1))
        house.hear(3, ("way", 9, 4, 2, (B,)))
        note = ("way", 9, 5, 12, (B,))
        self.assertEqual(house.hear(3, ("way", 9, 5, 2, (B,))), [(3, note), (4, note)])

    def test_both_change(self):
        house = house_with(7, (3, 10), (4, 1))
        house.hear(3, ("way", 9, 4, 2, (B,)))
        note = ("way", 9, 6, 81, (A, B))
        self.assertEqual(house.hear(4, ("way", 9, 6, 80, (A, B))), [(3, note), (4, note)])
        self.assertEqual(house.way(9), (6, 81, 4))

    def test_a_way_that_falls_and_comes_again(self):
        house = house_with(7, (3, 10))
        house.hear(3, ("way", 9, 4, 2, (B,)))
        self.assertEqual(house.hear(3, ("way", 9, 6, None, ())), [(3, ("way", 9, 4, None, (B,)))])
        self.assertEqual(house.hear(3, ("way", 9, 6, 2, (A,))), [(3, ("way", 9, 6, 12, (A,)))])

    def test_one_goal_leaves_the_others(self):
        house = house_with(7, (3, 10))
        house.hear(3, ("way", 9, 4, 2, (B,)))
        house.hear(3, ("way", 8, 4, 2, (A,)))
        self.assertEqual(house.hear(3, ("way", 8, 4, 1, (A,))), [(3, ("way", 8, 4, 11, (A,)))])
        self.assertEqual(house.way(9), (4, 12, 3))


class BeginningsOfAGoal(unittest.TestCase):
    def told(self, house, goal):
        return [note[4] for to, note in house.meet(0, 1) if note[0] == "way" and note[1] == goal]

    def test_those_of_the_first_note_stay_with_one_number(self):
        house = house_with(7, (3, 10), (4, 1))
        house.hear(3, ("way", 9, 4, 2, (B,)))
        note = ("way", 9, 4, 11, (B,))
        self.assertEqual(house.hear(3, ("way", 9, 4, 1, (A,))), [(3, note), (4, note)])
        note = ("way", 9, 4, 3, (B,))
        self.assertEqual(house.hear(4, ("way", 9, 4, 2, (C,))), [(3, note), (4, note)])
        self.assertEqual(house.table().rows(), [(B, 4)])
        self.assertEqual(self.told(house, 9), [(B,)])

    def test_those_of_a_greater_number_are_taken(self):
        house = house_with(7, (3, 10))
        house.hear(3, ("way", 9, 4, 2, (B,)))
        house.hear(3, ("way", 9, 5, 90, (A, C)))
        self.assertEqual(house.table().rows(), [(A, 3), (C, 3)])
        house.hear(3, ("way", 9, 6, 90, ()))
        self.assertEqual(house.table().rows(), [])
        self.assertEqual(self.told(house, 9), [()])

    def test_those_of_a_note_that_was_not_used_are_not_taken(self):
        house = house_with(7, (3, 10), (4, 1))
        house.hear(3, ("way", 9, 4, 2, (B,)))
        house.hear(4, ("way", 9, 3, 0, (A,)))
        house.hear(4, ("way", 9, 4, 12, (A,)))
        house.hear(4, ("way", 9, 5, None, (A,)))
        self.assertEqual(house.table().rows(), [(B, 3)])
        self.assertEqual(self.told(house, 9), [(B,)])

    def test_first_is_the_first_that_was_used(self):
        house = house_with(7, (3, 10), (4, 1))
        house.hear(3, ("way", 9, 4, None, (B,)))
        house.hear(4, ("way", 9, 4, 7, (A,)))
        self.assertEqual(house.table().rows(), [(A, 4)])
        house.hear(3, ("way", 9, 4, 0, (B,)))
        self.assertEqual(house.table().rows(), [(A, 4)])

    def test_they_stay_when_ties_fall(self):
        house = house_with(7, (3, 10), (4, 1))
        house.hear(3, ("way", 9, 4, 2, (B,)))
        house.lose(3)
        house.hear(4, ("way", 9, 4, 1, (A,)))
        self.assertEqual(house.table().rows(), [(B, 4)])


class HearingOfNews(unittest.TestCase):
    def test_new_ones(self):
        house = house_with(7, (5, 1), (3, 10))
        house.own(A)
        self.assertEqual(house.hear(5, ("news", 9, 1)), [
            (3, ("news", 9, 1)), (5, ("news", 9, 1)),
            (3, ("way", 7, 3, 0, (A,))), (5, ("way", 7, 3, 0, (A,))),
        ])
        self.assertEqual(house.raised, 3)

    def test_of_its_own(self):
        house = house_with(7, (3, 10))
        before = shown(house)
        for count in (1, 2, 50):
            self.assertEqual(house.hear(3, ("news", 7, count)), [])
            self.assertEqual(shown(house), before)
        self.assertEqual(house.meet(8, 1)[1], (3, ("news", 7, 1)))

    def test_heard_ones(self):
        house = house_with(7, (3, 10), (4, 1))
        house.hear(3, ("news", 9, 5))
        before = shown(house)
        for neighbour in (3, 4):
            for count in (1, 4, 5):
                self.assertEqual(house.hear(neighbour, ("news", 9, count)), [])
                self.assertEqual(shown(house), before)
        self.assertEqual(house.hear(4, ("news", 9, 6))[0], (3, ("news", 9, 6)))
        self.assertEqual(house.hear(4, ("news", 9, 6)), [])
        self.assertEqual(house.raised, 3)

    def test_each_origin_has_a_count_of_its_own(self):
        house = house_with(7, (3, 10))
        house.hear(3, ("news", 9, 5))
        self.assertEqual(len(house.hear(3, ("news", 3, 1))), 2)
        self.assertEqual(len(house.hear(3, ("news", 31, 1))), 2)
        self.assertEqual(len(house.hear(3, ("news", 0, 4))), 2)
        self.assertEqual(house.hear(3, ("news", 0, 4)), [])
        self.assertEqual(house.raised, 5)

    def test_counts_stay_when_ties_fall(self):
        house = house_with(7, (3, 10))
        house.hear(3, ("news", 9, 5))
        house.lose(3)
        house.meet(3, 1)
        self.assertEqual(house.hear(3, ("news", 9, 5)), [])

    def test_its_own_count_has_nothing_to_do_with_heard_ones(self):
        house = house_with(7, (3, 10))
        house.hear(3, ("news", 9, 5))
        self.assertEqual(house.meet(8, 1)[1], (3, ("news", 7, 1)))

    def test_news_change_no_way(self):
        house = house_with(7, (3, 10))
        house.hear(3, ("way", 9, 4, 2, (B,)))
        house.hear(3, ("news", 9, 5))
        self.assertEqual((house.way(9), house.mark(9)), ((4, 12, 3), (4, 12)))


class Tables(unittest.TestCase):
    def filled(self):
        house = house_with(7, (3, 10), (4, 1))
        house.own((0, 1))
        house.own((65535, 16))
        house.hear(3, ("way", 9, 4, 2, ((0, 0), (3, 3))))
        house.hear(4, ("way", 8, 1, 0, ((0, 2), (1, 1))))
        house.hear(4, ("way", 2, 1, 0, ((1, 4), (1, 2))))
        house.hear(4, ("way", 2, 1, None, ((1, 4), (1, 2))))
        house.hear(4, ("way", 1, 1, None, ((5, 3),)))
        return house

    def test_its_own_those_with_a_way_and_those_without(self):
        self.assertEqual(self.filled().table().rows(), [
            ((0, 0), 3), ((0, 1), 7), ((0, 2), 4), ((1, 4), None), ((1, 2), None), ((3, 3), 3), ((1, 1), 4),
            ((65535, 16), 7),
        ])

    def test_the_table_of_a_house_nought(self):
        house = house_with(0, (3, 10))
        house.own(A)
        self.assertEqual(house.table().rows(), [(A, 0)])
        self.assertEqual(house.look(0), (A, 0))

    def test_a_way_by_the_house_nought(self):
        house = house_with(7, (0, 10))
        house.hear(0, ("way", 0, 1, 0, (B,)))
        self.assertEqual(house.table().rows(), [(B, 0)])

    def test_look(self):
        house = self.filled()
        self.assertEqual(house.look(0), ((0, 2), 4))
        self.assertEqual(house.look(4096), ((1, 4), None))
        self.assertEqual(house.look(8191), ((1, 4), None))
        self.assertEqual(house.look(8192), ((0, 2), 4))
        self.assertEqual(house.look(16384), ((1, 2), None))
        self.assertEqual(house.look(24576), ((3, 3), 3))
        self.assertEqual(house.look(32768), ((1, 1), 4))
        self.assertEqual(house.look(65534), ((1, 1), 4))
        self.assertEqual(house.look(65535), ((65535, 16), 7))
        self.assertIs(type(house.look(0)), tuple)

    def test_look_where_there_is_no_row(self):
        house = House(7)
        house.own((1, 1))
        self.assertIsNone(house.look(0))
        self.assertIsNone(house.look(32767))
        self.assertEqual(house.look(32768), ((1, 1), 7))

    def test_a_way_that_falls(self):
        house = self.filled()
        house.lose(4)
        self.assertEqual(house.table().rows(), [
            ((0, 0), 3), ((0, 1), 7), ((0, 2), None), ((1, 4), None), ((1, 2), None), ((3, 3), 3), ((1, 1), None),
            ((65535, 16), 7),
        ])

    def test_the_table_is_a_new_one_each_time(self):
        house = self.filled()
        table = house.table()
        rows = table.rows()
        self.assertIsInstance(table, Table)
        self.assertIsNot(house.table(), table)
        table.put((0, 0), 30)
        table.cut((0, 1))
        self.assertEqual(house.table().rows(), rows)
        self.assertEqual(house.look(16383), ((0, 2), 4))

    def test_what_is_done_later_changes_no_table(self):
        house = self.filled()
        table = house.table()
        rows = table.rows()
        house.lose(3)
        house.own((9, 9))
        self.assertEqual(table.rows(), rows)


class AskersOwn(unittest.TestCase):
    def test_lists_told(self):
        house = house_with(7, (3, 10), (4, 1))
        told = house.neighbours()
        told.append(9)
        told[0] = 30
        self.assertEqual(house.neighbours(), [3, 4])
        self.assertIsNot(house.neighbours(), house.neighbours())

    def test_what_is_done_later_changes_no_list(self):
        house = house_with(7, (3, 10), (4, 1))
        neighbours = house.neighbours()
        written = house.own(A)
        house.lose(3)
        house.own(B)
        self.assertEqual(neighbours, [3, 4])
        self.assertEqual(written, [(3, ("way", 7, 2, 0, (A,))), (4, ("way", 7, 2, 0, (A,)))])

    def test_what_is_written_is_a_list_of_pairs(self):
        house = house_with(9, (3, 10))
        for written in (
            house.own(A), house.meet(4, 1), house.meet(31, 1), house.hear(4, ("way", 5, 1, 0, (B,))),
            house.hear(4, ("news", 5, 1)), house.lose(4),
        ):
            self.assertIs(type(written), list)
            self.assertTrue(written)
            for pair in written:
                self.assertIs(type(pair), tuple)
                self.assertEqual(len(pair), 2)
            kept = list(written)
            written.clear()
            self.assertNotEqual(kept, [])
        self.assertEqual(house.neighbours(), [3, 31])

    def test_asking_changes_nothing(self):
        house = house_with(7, (3, 10), (4, 1))
        house.hear(3, ("way", 9, 4, 2, (B,)))
        before = shown(house)
        for asked in range(3):
            house.look(0)
            self.assertEqual(shown(house), before)
        self.assertEqual(house.hear(3, ("way", 9, 4, 2, (B,))), [])


if __name__ == "__main__":
    unittest.main()
