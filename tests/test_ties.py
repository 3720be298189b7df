import unittest

from posthouse.errors import NoHouse, NoNote, NotTied, Tied
from posthouse.ties import Ties

HOUSES = (0, 1, 2, 3, 10, 31)

ANY_THINGS = (
    None, True, False, 0, -1, 10 ** 30, "", "way", [], (), [()], ([],), [1, [2, (3, [4])]], ("way", 5, 2, 7, ()),
    ("news", 5, 1), ("way", 5), {"a": 1},
)


def made(*ties):
    result = Ties()
    for one, other, length in ties:
        result.come(one, other, length)
    return result


def state(ties):
    sent = {}
    for one, other, length in ties.pairs():
        sent[(one, other)] = ties.notes(one, other)
        sent[(other, one)] = ties.notes(other, one)
    return (ties.pairs(), ties.waiting(), sent)


class Untouchable:
    """A note that can't be looked at."""

    def refuse(self, *things):
        raise AssertionError("the note was looked at")

    __eq__ = __ne__ = __lt__ = __bool__ = __len__ = __iter__ = __hash__ = __repr__ = __str__ = __getitem__ = refuse


class TiesTest(unittest.TestCase):
    def check_refused(self, refusal, ties, method, *things):
        ahead = state(ties)
        with self.subTest(method=method, things=things):
            with self.assertRaises(refusal) as caught:
                getattr(ties, method)(*things)
            self.assertIs(caught.exception.__class__, refusal)
            self.assertEqual(state(ties), ahead)

    def some_ties(self):
        ties = made((0, 1, 5), (2, 1, 99))
        ties.send(0, 1, "first")
        ties.send(0, 1, "second")
        ties.send(1, 2, "third")
        return ties


class Coming(TiesTest):
    def test_at_first_there_is_none(self):
        self.assertEqual(state(Ties()), ([], [], {}))

    def test_come_gives_nothing_and_ties_two(self):
        ties = Ties()
        self.assertIsNone(ties.come(4, 2, 7))
        self.assertEqual(state(ties), ([(2, 4, 7)], [], {(2, 4): [], (4, 2): []}))

    def test_one_that_comes_to_itself(self):
        for house in HOUSES:
            self.check_refused(NoHouse, self.some_ties(), "come", house, house, 5)

    def test_two_that_are_tied_in_either_order(self):
        for length in (1, 5, 99):
            self.check_refused(Tied, self.some_ties(), "come", 0, 1, length)
            self.check_refused(Tied, self.some_ties(), "come", 1, 0, length)
            self.check_refused(Tied, self.some_ties(), "come", 1, 2, length)
            self.check_refused(Tied, self.some_ties(), "come", 2, 1, length)

    def test_two_that_share_a_neighbour_are_not_tied(self):
        ties = self.some_ties()
        ties.come(0, 2, 3)
        self.assertEqual(ties.pairs(), [(0, 1, 5), (0, 2, 3), (1, 2, 99)])

    def test_each_has_its_own(self):
        one = made((0, 1, 5))
        other = made((0, 1, 6))
        one.send(0, 1, "a note")
        self.assertEqual(other.waiting(), [])
        other.fall(0, 1)
        self.assertEqual(state(one), ([(0, 1, 5)], [(0, 1)], {(0, 1): ["a note"], (1, 0): []}))


class Falling(TiesTest):
    def test_fall_gives_nothing_and_unties_in_either_order(self):
        for one, other in ((0, 1), (1, 0)):
            ties = made((0, 1, 5), (1, 2, 6))
            self.assertIsNone(ties.fall(one, other))
            self.assertEqual(ties.pairs(), [(1, 2, 6)])
            for method in ("fall", "carry", "length", "notes"):
                self.check_refused(NotTied, ties, method, 0, 1)
                self.check_refused(NotTied, ties, method, 1, 0)

    def test_notes_of_both_directions_are_lost(self):
        for one, other in ((3, 1), (1, 3)):
            ties = made((1, 3, 5), (1, 2, 6))
            for sender, receiver in ((1, 3), (3, 1), (1, 2), (2, 1), (1, 3)):
                ties.send(sender, receiver, (sender, receiver))
            ties.fall(one, other)
            self.assertEqual(ties.waiting(), [(1, 2), (2, 1)])
            ties.come(other, one, 8)
            self.assertEqual(ties.waiting(), [(1, 2), (2, 1)])
            self.assertEqual(ties.notes(1, 3), [])
            self.assertEqual(ties.notes(3, 1), [])
            self.assertEqual(ties.notes(1, 2), [(1, 2)])
            self.assertEqual(ties.notes(2, 1), [(2, 1)])
            self.assertEqual(ties.length(1, 3), 8)
            self.check_refused(NoNote, ties, "carry", 1, 3)
            self.check_refused(NoNote, ties, "carry", 3, 1)

    def test_a_tie_that_came_again_carries_what_is_sent_then(self):
        ties = made((1, 3, 5))
        ties.send(1, 3, "old")
        ties.fall(1, 3)
        ties.come(1, 3, 5)
        ties.send(1, 3, "new")
        self.assertEqual(ties.carry(1, 3), "new")


class NotTiedAtAll(TiesTest):
    def test_two_that_are_not_tied(self):
        for one, other in ((0, 2), (2, 0), (0, 31), (31, 0), (10, 3)):
            for method in ("fall", "carry", "length", "notes"):
                self.check_refused(NotTied, self.some_ties(), method, one, other)
                self.check_refused(NotTied, Ties(), method, one, other)
            self.check_refused(NotTied, self.some_ties(), "send", one, other, "a note")
            self.check_refused(NotTied, Ties(), "send", one, other, "a note")

    def test_a_house_and_itself(self):
        for house in HOUSES:
            for method in ("fall", "carry", "length", "notes"):
                self.check_refused(NotTied, self.some_ties(), method, house, house)
            self.check_refused(NotTied, self.some_ties(), "send", house, house, "a note")

    def test_the_note_of_a_refused_send_is_not_looked_at(self):
        self.check_refused(NotTied, self.some_ties(), "send", 0, 2, Untouchable())


class Sending(TiesTest):
    def test_send_gives_nothing(self):
        self.assertIsNone(made((0, 1, 5)).send(0, 1, "a note"))

    def test_each_direction_in_the_order_in_which_they_were_sent(self):
        ties = made((0, 1, 5), (1, 2, 5))
        for note, way in enumerate(((0, 1), (1, 0), (0, 1), (1, 2), (1, 0), (0, 1), (2, 1))):
            ties.send(way[0], way[1], note)
        self.assertEqual(ties.notes(0, 1), [0, 2, 5])
        self.assertEqual(ties.notes(1, 0), [1, 4])
        self.assertEqual(ties.notes(1, 2), [3])
        self.assertEqual(ties.notes(2, 1), [6])
        self.assertEqual(ties.carry(1, 0), 1)
        self.assertEqual(ties.carry(0, 1), 0)
        self.assertEqual(ties.carry(0, 1), 2)
        ties.send(0, 1, 7)
        self.assertEqual(ties.notes(0, 1), [5, 7])
        self.assertEqual(ties.carry(0, 1), 5)
        self.assertEqual(ties.carry(0, 1), 7)
        self.assertEqual(ties.carry(1, 0), 4)
        self.assertEqual(ties.waiting(), [(1, 2), (2, 1)])

    def test_the_same_note_twice(self):
        ties = made((0, 1, 5))
        ties.send(0, 1, "a note")
        ties.send(0, 1, "a note")
        self.assertEqual(ties.carry(0, 1), "a note")
        self.assertEqual(ties.carry(0, 1), "a note")
        self.check_refused(NoNote, ties, "carry", 0, 1)

    def test_carry_where_none_is_on_its_way(self):
        ties = made((0, 1, 5), (1, 2, 5))
        self.check_refused(NoNote, ties, "carry", 0, 1)
        ties.send(1, 0, "back")
        ties.send(1, 2, "on")
        self.check_refused(NoNote, ties, "carry", 0, 1)
        self.check_refused(NoNote, ties, "carry", 2, 1)
        ties.carry(1, 0)
        self.check_refused(NoNote, ties, "carry", 1, 0)

    def test_any_thing_is_a_note(self):
        ties = made((0, 1, 5))
        for thing in ANY_THINGS:
            ties.send(0, 1, thing)
        self.assertEqual(ties.notes(0, 1), list(ANY_THINGS))
        for thing in ANY_THINGS:
            with self.subTest(thing=thing):
                self.assertEqual(ties.waiting(), [(0, 1)])
                carried = ties.carry(0, 1)
                self.assertEqual(repr(carried), repr(thing))
        self.assertEqual(ties.waiting(), [])

    def test_a_note_is_not_looked_at(self):
        ties = made((0, 1, 5))
        notes = [Untouchable(), Untouchable()]
        for note in notes:
            ties.send(0, 1, note)
        self.assertEqual(ties.waiting(), [(0, 1)])
        for place, note in enumerate(ties.notes(0, 1)):
            self.assertIs(note, notes[place])
        self.assertIs(ties.carry(0, 1), notes[0])
        self.assertIs(ties.carry(0, 1), notes[1])

    def test_a_note_that_lies_deep(self):
        ties = made((0, 1, 5))
        note = []
        for depth in range(20000):
            note = [note] if depth // 7 % 2 else (note,)
        ties.send(0, 1, note)
        carried = ties.notes(0, 1)[0]
        self.assertEqual(ties.waiting(), [(0, 1)])
        for depth in reversed(range(20000)):
            self.assertIs(carried.__class__, list if depth // 7 % 2 else tuple)
            self.assertEqual(len(carried), 1)
            carried = carried[0]
        self.assertEqual(carried, [])


class OwnLists(TiesTest):
    def test_a_list_that_was_sent_is_as_it_was(self):
        ties = made((0, 1, 5))
        inner = [1]
        note = [inner, (inner, "a"), 7]
        ties.send(0, 1, note)
        self.assertEqual(note, [[1], ([1], "a"), 7])
        note.append(8)
        inner.append(2)
        self.assertEqual(ties.notes(0, 1), [[[1], ([1], "a"), 7]])
        self.assertEqual(ties.carry(0, 1), [[1], ([1], "a"), 7])

    def test_a_list_within_a_tuple(self):
        ties = made((0, 1, 5))
        inner = [1]
        ties.send(0, 1, ("a", (inner,), ()))
        inner.append(2)
        self.assertEqual(ties.carry(0, 1), ("a", ([1],), ()))

    def test_what_is_done_to_a_carried_note_changes_none_that_was_told(self):
        ties = made((0, 1, 5))
        ties.send(0, 1, [[1]])
        told = ties.notes(0, 1)
        carried = ties.carry(0, 1)
        carried[0].append(2)
        self.assertEqual(told, [[[1]]])

    def test_notes_are_new_each_time(self):
        ties = made((0, 1, 5))
        ties.send(0, 1, ["a"])
        ties.send(0, 1, "b")
        told = ties.notes(0, 1)
        told[0].append("c")
        told.pop()
        self.assertEqual(ties.notes(0, 1), [["a"], "b"])
        ties.notes(1, 0).append("d")
        self.assertEqual(ties.notes(1, 0), [])
        self.assertEqual(ties.waiting(), [(0, 1)])

    def test_pairs_and_waiting_are_new_each_time(self):
        ties = self.some_ties()
        ahead = state(ties)
        ties.pairs().clear()
        ties.waiting().clear()
        ties.pairs().append((0, 31, 1))
        ties.waiting().append((2, 1))
        self.assertEqual(state(ties), ahead)
        self.check_refused(NotTied, ties, "length", 0, 31)
        self.check_refused(NoNote, ties, "carry", 2, 1)

    def test_nothing_done_later_changes_a_list_that_was_given(self):
        ties = self.some_ties()
        told = (ties.pairs(), ties.waiting(), ties.notes(0, 1))
        ties.carry(0, 1)
        ties.carry(0, 1)
        ties.send(2, 1, "more")
        ties.fall(1, 2)
        ties.come(1, 31, 4)
        self.assertEqual(told, ([(0, 1, 5), (1, 2, 99)], [(0, 1), (1, 2)], ["first", "second"]))


class Asking(TiesTest):
    def test_length_in_either_order(self):
        ties = made((10, 2, 1), (2, 3, 99))
        for one, other, length in ((10, 2, 1), (2, 10, 1), (2, 3, 99), (3, 2, 99)):
            self.assertEqual(ties.length(one, other), length)

    def test_length_of_a_tie_that_came_again(self):
        ties = made((10, 2, 1))
        ties.fall(2, 10)
        ties.come(2, 10, 9)
        self.assertEqual(ties.length(10, 2), 9)

    def test_pairs_with_the_lesser_house_first_and_rising(self):
        ties = made((31, 2, 1), (10, 2, 5), (9, 10, 4), (3, 2, 99), (0, 31, 7), (30, 0, 2))
        self.assertEqual(
            ties.pairs(), [(0, 30, 2), (0, 31, 7), (2, 3, 99), (2, 10, 5), (2, 31, 1), (9, 10, 4)]
        )

    def test_waiting_rising_and_only_directions_with_a_note(self):
        ties = made((31, 2, 1), (10, 2, 5), (9, 10, 4), (3, 2, 99), (0, 31, 7))
        for one, other in ((31, 2), (2, 10), (10, 9), (2, 3), (10, 2), (0, 31), (2, 10)):
            ties.send(one, other, None)
        self.assertEqual(ties.waiting(), [(0, 31), (2, 3), (2, 10), (10, 2), (10, 9), (31, 2)])
        ties.carry(2, 10)
        ties.carry(10, 2)
        self.assertEqual(ties.waiting(), [(0, 31), (2, 3), (2, 10), (10, 9), (31, 2)])
        ties.carry(2, 10)
        self.assertEqual(ties.waiting(), [(0, 31), (2, 3), (10, 9), (31, 2)])

    def test_asking_changes_nothing(self):
        ties = self.some_ties()
        ahead = state(ties)
        ties.length(1, 0)
        ties.notes(1, 0)
        ties.notes(0, 1)
        self.assertEqual(state(ties), ahead)


if __name__ == "__main__":
    unittest.main()
