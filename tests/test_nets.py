import random
import unittest

from net_states import NO_NUMBERS, done, notes_of, state, state_of_house
from posthouse.errors import BadDeed, NoHouse, NoNote, NotTied, Owned, Tied
from posthouse.houses import House
from posthouse.nets import Net
from posthouse.picks import by_turns, first_of, last_of

NO_DEEDS = (
    None, True, 0, 5, 10 ** 5000, "", "fall", "fall 0 1", [], (), ["fall", 0, 1], [("fall", 0, 1)], (("fall", 0, 1),),
    ("own", 0), ("own", 0, 1), ("own", 0, [0, 1]), ("own", 0, (2, 1)), ("own", 0, (0, 17)), ("own", True, (0, 1)),
    ("own", 0, (0, 1), 0), ("own", -1, (0, 1)), ("own", 32, (0, 1)), ("own", None, (0, 1)), ("own", "0", (0, 1)),
    ("come", 0, 1), ("come", 0, 1, 0), ("come", 0, 1, 100), ("come", 0, 1, -1), ("come", 0, 1, True), ("come", 0, 1, None),
    ("come", 0, 1, "5"), ("come", False, 1, 5), ("come", 0, True, 5), ("come", -1, 1, 5), ("come", 0, 32, 5),
    ("come", 0, 1, 5, 5), ("fall", 0), ("fall", 0, 1, 5), ("fall", 0, True), ("fall", False, 1), ("fall", 32, 0),
    ("fall", 0, -1), ("fall", 0, None), ("carry", 0), ("carry", 0, 1, 5), ("carry", 0, True), ("carry", False, 1),
    ("carry", 32, 0), ("carry", 0, -1), ("carry", "0", "1"), ("rest",), ("rest", 0, 1), ("way", 0, 2, 7, ()), ("news", 0, 1),
)


class NetTest(unittest.TestCase):
    def check_refused(self, refusal, net, deed):
        ahead = state(net)
        with self.assertRaises(refusal) as caught:
            net.do(deed)
        self.assertIs(caught.exception.__class__, refusal)
        self.assertEqual(state(net), ahead)


class Making(NetTest):
    def test_as_many_houses_as_told(self):
        for count in range(1, 33):
            net = Net(count)
            self.assertEqual(net.count(), count)
            for number in range(count):
                house = net.house(number)
                self.assertIsInstance(house, House)
                self.assertEqual((house.number, house.raised, house.beginnings()), (number, 1, ()))
            self.assertRaises(NoHouse, net.house, count)
            self.assertEqual((net.ties(), net.waiting(), net.log()), ([], [], []))

    def test_whatever_is_no_number_from_1_to_32(self):
        for thing in (0, 33, -1, -32, 34) + NO_NUMBERS:
            with self.assertRaises(NoHouse) as caught:
                Net(thing)
            self.assertIs(caught.exception.__class__, NoHouse)

    def test_each_net_has_its_own(self):
        one = Net(2)
        other = Net(2)
        one.do(("own", 0, (0, 1)))
        one.do(("come", 0, 1, 5))
        self.assertEqual(state(other), state(Net(2)))
        self.assertEqual(other.do(("own", 1, (0, 1))), 0)


class Asking(NetTest):
    def test_whatever_is_not_the_number_of_a_house(self):
        for count in (1, 2, 5, 32):
            net = Net(count)
            for thing in (count, count + 1, -1, -count) + NO_NUMBERS:
                with self.assertRaises(NoHouse) as caught:
                    net.house(thing)
                self.assertIs(caught.exception.__class__, NoHouse)

    def test_a_house_shows_what_was_done(self):
        net = done(3, ("own", 2, (0, 1)), ("come", 0, 2, 7))
        net.rest(first_of)
        self.assertEqual(net.house(2).beginnings(), ((0, 1),))
        self.assertEqual(net.house(0).neighbours(), [2])
        self.assertEqual(net.house(0).way(2)[1:], (7, 2))
        self.assertEqual(net.house(0).look(5), ((0, 1), 2))
        self.assertEqual(net.house(2).look(5), ((0, 1), 2))
        self.assertIsNone(net.house(1).look(5))

    def test_ties_with_the_lesser_house_first_and_rising(self):
        net = done(12, ("come", 10, 2, 7), ("come", 3, 2, 99), ("come", 0, 11, 1), ("come", 1, 0, 5))
        self.assertEqual(net.ties(), [(0, 1, 5), (0, 11, 1), (2, 3, 99), (2, 10, 7)])
        net.do(("fall", 11, 0))
        self.assertEqual(net.ties(), [(0, 1, 5), (2, 3, 99), (2, 10, 7)])

    def test_waiting_rising_and_only_directions_with_a_note(self):
        net = done(12, ("come", 10, 2, 7), ("come", 3, 2, 99))
        self.assertEqual(net.waiting(), [(2, 3), (2, 10), (3, 2), (10, 2)])
        net.do(("carry", 3, 2))
        net.do(("carry", 2, 3))
        net.do(("carry", 10, 2))
        self.assertEqual(net.waiting(), [(2, 3), (2, 10), (3, 2)])

    def test_log_holds_what_was_done_and_only_that(self):
        deeds = [("own", 0, (0, 1)), ("come", 1, 0, 5), ("carry", 0, 1), ("fall", 0, 1), ("come", 0, 1, 6)]
        net = Net(2)
        for place, deed in enumerate(deeds):
            self.assertEqual(net.log(), deeds[:place])
            net.do(deed)
            for refused in (None, ("own", 1, (0, 1)), ("own", 2, (1, 1)), ("carry", 0, 0), ("fall", 0, 2)):
                self.assertRaises(ValueError, net.do, refused)
        self.assertEqual(net.log(), deeds)

    def test_lists_are_new_each_time(self):
        net = done(3, ("own", 0, (0, 1)), ("come", 0, 1, 5))
        ahead = state(net)
        for ask in (net.ties, net.waiting, net.log):
            told = ask()
            told.clear()
            ask().append(("fall", 0, 1))
            self.assertEqual(state(net), ahead)
        net.house(0).neighbours().append(2)
        net.house(0).table().put((0, 0), 1)
        self.assertEqual(state(net), ahead)

    def test_nothing_done_later_changes_a_list_that_was_given(self):
        net = done(3, ("own", 0, (0, 1)), ("come", 0, 1, 5))
        told = (net.ties(), net.waiting(), net.log())
        net.rest(first_of)
        net.do(("fall", 0, 1))
        net.do(("come", 1, 2, 9))
        self.assertEqual(
            told, ([(0, 1, 5)], [(0, 1), (1, 0)], [("own", 0, (0, 1)), ("come", 0, 1, 5)])
        )


class Deeds(NetTest):
    def test_own_without_neighbours(self):
        net = Net(3)
        self.assertEqual(net.do(("own", 1, (0, 1))), 0)
        self.assertEqual((net.house(1).raised, net.house(1).beginnings()), (2, ((0, 1),)))
        self.assertEqual((net.house(0).raised, net.house(2).raised), (1, 1))

    def test_own_tells_each_neighbour(self):
        net = done(4, ("come", 1, 0, 5), ("come", 1, 3, 6))
        ahead = notes_of(net)
        raised = net.house(1).raised
        self.assertEqual(net.do(("own", 1, (3, 2))), 2)
        note = ("way", 1, raised + 1, 0, ((3, 2),))
        ahead[(1, 0)].append(note)
        ahead[(1, 3)].append(note)
        self.assertEqual(notes_of(net), ahead)

    def test_come_told_in_either_order(self):
        for one, other in ((0, 1), (1, 0)):
            net = done(3, ("own", 0, (0, 1)))
            self.assertEqual(net.do(("come", one, other, 5)), 4)
            self.assertEqual(net.ties(), [(0, 1, 5)])
            self.assertEqual(notes_of(net), {
                (0, 1): [("way", 0, 2, 0, ((0, 1),)), ("news", 0, 1), ("way", 0, 3, 0, ((0, 1),))],
                (1, 0): [("way", 1, 1, 0, ())],
            })
            self.assertEqual((net.house(0).raised, net.house(1).raised), (3, 1))
            self.assertEqual((net.house(0).neighbours(), net.house(1).neighbours()), ([1], [0]))

    def test_come_tells_the_new_neighbour_of_goals_and_the_others_the_news(self):
        net = done(3, ("come", 0, 1, 5))
        net.rest(first_of)
        raised = [net.house(number).raised for number in range(3)]
        mark = net.house(1).mark(0)
        self.assertEqual(net.do(("come", 2, 1, 9)), 7)
        self.assertEqual(notes_of(net), {
            (0, 1): [],
            (1, 0): [("news", 1, 1), ("way", 1, raised[1] + 1, 0, ())],
            (1, 2): [
                ("way", 1, raised[1], 0, ()), ("way", 0, mark[0], 5, ()), ("news", 1, 1), ("way", 1, raised[1] + 1, 0, ()),
            ],
            (2, 1): [("way", 2, raised[2], 0, ())],
        })

    def test_carry_takes_the_first_note_and_sends_what_is_written(self):
        net = done(2, ("own", 0, (0, 1)), ("come", 0, 1, 5))
        self.assertEqual(net.do(("carry", 0, 1)), 1)
        self.assertEqual(net.do(("carry", 0, 1)), 2)
        self.assertEqual(notes_of(net), {
            (0, 1): [("way", 0, 3, 0, ((0, 1),))],
            (1, 0): [
                ("way", 1, 1, 0, ()), ("way", 0, 2, 5, ((0, 1),)), ("news", 0, 1), ("way", 1, 2, 0, ()),
            ],
        })
        self.assertEqual(net.house(1).way(0), (2, 5, 0))
        self.assertEqual(net.do(("carry", 1, 0)), 1)
        self.assertEqual(net.house(0).way(1), (1, 5, 1))
        self.assertEqual(net.do(("carry", 1, 0)), 0)
        self.assertEqual(net.do(("carry", 1, 0)), 0)
        self.assertEqual(net.do(("carry", 0, 1)), 1)
        self.assertEqual(notes_of(net), {
            (0, 1): [("way", 1, 1, 5, ())],
            (1, 0): [("way", 1, 2, 0, ()), ("way", 0, 3, 5, ((0, 1),))],
        })

    def test_fall_told_in_either_order(self):
        for one, other in ((1, 2), (2, 1)):
            net = done(4, ("own", 2, (0, 1)), ("come", 0, 1, 5), ("come", 1, 2, 6), ("come", 2, 3, 7))
            net.rest(first_of)
            raised = [net.house(number).raised for number in range(4)]
            numbers = [[net.house(one).mark(goal) for goal in range(4)] for one in range(4)]
            self.assertEqual(net.do(("fall", one, other)), 8)
            self.assertEqual(net.ties(), [(0, 1, 5), (2, 3, 7)])
            self.assertEqual(notes_of(net), {
                (0, 1): [],
                (1, 0): [
                    ("way", 2, numbers[1][2][0], None, ((0, 1),)), ("way", 3, numbers[1][3][0], None, ()),
                    ("news", 1, 2), ("way", 1, raised[1] + 1, 0, ()),
                ],
                (2, 3): [
                    ("way", 0, numbers[2][0][0], None, ()), ("way", 1, numbers[2][1][0], None, ()),
                    ("news", 2, 2), ("way", 2, raised[2] + 1, 0, ((0, 1),)),
                ],
                (3, 2): [],
            })

    def test_fall_loses_the_notes_on_the_tie_alone(self):
        net = done(3, ("come", 0, 1, 5), ("come", 1, 2, 6))
        kept = notes_of(net)
        net.do(("fall", 1, 0))
        self.assertEqual(net.waiting(), [(1, 2), (2, 1)])
        self.assertEqual(notes_of(net)[(2, 1)], kept[(2, 1)])
        self.assertEqual(notes_of(net)[(1, 2)][:len(kept[(1, 2)])], kept[(1, 2)])
        net.do(("come", 1, 0, 5))
        self.assertEqual(notes_of(net)[(1, 0)], [("way", 1, net.house(1).raised, 0, ())])

    def test_fall_of_the_last_tie(self):
        net = done(2, ("come", 0, 1, 5))
        self.assertEqual(net.do(("fall", 0, 1)), 0)
        self.assertEqual((net.ties(), net.waiting()), ([], []))
        self.assertEqual((net.house(0).raised, net.house(1).raised), (3, 2))
        self.assertEqual(net.do(("come", 0, 1, 99)), 4)

    def test_a_deed_that_was_handed_in_stays(self):
        deed = ("own", 0, (0, 1))
        net = done(1, deed)
        self.assertEqual(deed, ("own", 0, (0, 1)))
        self.assertEqual(net.log(), [deed])


class Refusals(NetTest):
    def a_net(self):
        net = done(4, ("own", 0, (0, 1)), ("own", 1, (1, 1)), ("come", 0, 1, 5), ("come", 1, 2, 6), ("carry", 0, 1))
        while (2, 1) in net.waiting():
            net.do(("carry", 2, 1))
        return net

    def test_whatever_is_no_deed(self):
        net = self.a_net()
        for thing in NO_DEEDS:
            self.check_refused(BadDeed, net, thing)

    def test_no_deed_ahead_of_no_house(self):
        net = self.a_net()
        for deed in (
            ("own", 31, (2, 1)), ("own", 32, (0, 1)), ("come", 31, 31, 100), ("come", 4, 32, 5), ("come", 1, 1, 0),
            ("fall", 31, 32), ("fall", 31, None), ("carry", -1, 31), ("carry", 4, True), ("fall", 4, 4, 4),
        ):
            self.check_refused(BadDeed, net, deed)

    def test_houses_that_the_net_has_not(self):
        net = self.a_net()
        for house in (4, 5, 31):
            for deed in (
                ("own", house, (2, 2)), ("come", 0, house, 5), ("come", house, 0, 5), ("come", house, 31, 5),
                ("come", house, house, 5), ("fall", 0, house), ("fall", house, 0), ("fall", house, house),
                ("carry", 0, house), ("carry", house, 0), ("carry", house, house),
            ):
                self.check_refused(NoHouse, net, deed)

    def test_no_house_ahead_of_owned(self):
        self.check_refused(NoHouse, self.a_net(), ("own", 4, (0, 1)))

    def test_two_that_are_the_same(self):
        net = self.a_net()
        for house in range(4):
            for deed in (("come", house, house, 5), ("fall", house, house), ("carry", house, house)):
                self.check_refused(NoHouse, net, deed)

    def test_owned_by_any_house(self):
        net = self.a_net()
        for house in range(4):
            self.check_refused(Owned, net, ("own", house, (0, 1)))
            self.check_refused(Owned, net, ("own", house, (1, 1)))

    def test_beginnings_within_one_that_is_owned_are_free(self):
        net = self.a_net()
        for house, beginning in enumerate(((0, 0), (0, 2), (1, 2), (0, 16))):
            net.do(("own", house, beginning))
            self.check_refused(Owned, net, ("own", 3 - house, beginning))

    def test_tied(self):
        net = self.a_net()
        for one, other in ((0, 1), (1, 0), (1, 2), (2, 1)):
            self.check_refused(Tied, net, ("come", one, other, 5))
            self.check_refused(Tied, net, ("come", one, other, 6))

    def test_not_tied(self):
        net = self.a_net()
        for one, other in ((0, 2), (2, 0), (3, 0), (2, 3)):
            self.check_refused(NotTied, net, ("fall", one, other))
            self.check_refused(NotTied, net, ("carry", one, other))

    def test_no_note(self):
        self.check_refused(NoNote, self.a_net(), ("carry", 2, 1))

    def test_after_a_refusal_all_goes_on(self):
        net = self.a_net()
        other = self.a_net()
        for deed in (("come", 0, 1, 5), ("own", 3, (0, 1)), ("carry", 2, 1), ("fall", 2, 3), ("carry", 0, 0), None):
            self.assertRaises(ValueError, net.do, deed)
        net.rest(by_turns(1))
        other.rest(by_turns(1))
        self.assertEqual(state(net), state(other))


class Resting(NetTest):
    def a_net(self):
        return done(4, ("own", 3, (0, 1)), ("come", 0, 1, 5), ("come", 1, 2, 6), ("come", 2, 3, 1), ("come", 3, 0, 9))

    def carries(self, net, ahead):
        log = net.log()[ahead:]
        self.assertTrue(all(deed[0] == "carry" for deed in log))
        return [deed[1:] for deed in log]

    def test_nothing_on_its_way(self):
        for net in (Net(1), Net(5), done(2, ("come", 0, 1, 5), ("fall", 0, 1))):
            ahead = state(net)
            for most in (None, 0, 1, 100):
                self.assertEqual(net.rest(self.fail, most), 0)
            self.assertEqual(net.rest(self.fail), 0)
            self.assertEqual(state(net), ahead)

    def test_to_the_end(self):
        for pick in (first_of, last_of, by_turns(0), by_turns(-7)):
            net = self.a_net()
            ahead = len(net.log())
            carried = net.rest(pick)
            self.assertEqual(net.waiting(), [])
            self.assertEqual(len(self.carries(net, ahead)), carried)
            self.assertGreater(carried, 40)
            self.assertEqual(net.rest(pick), 0)

    def test_none_as_most(self):
        net = self.a_net()
        other = self.a_net()
        self.assertEqual(net.rest(last_of, None), other.rest(last_of))
        self.assertEqual(state(net), state(other))

    def test_most(self):
        whole = self.a_net().rest(first_of)
        for most in (0, 1, 2, 17, whole - 1, whole, whole + 1, 10 ** 30):
            with self.subTest(most=most):
                net = self.a_net()
                ahead = len(net.log())
                self.assertEqual(net.rest(first_of, most), min(most, whole))
                self.assertEqual(len(self.carries(net, ahead)), min(most, whole))
                self.assertEqual(net.rest(first_of), whole - min(most, whole))

    def test_a_most_of_0_changes_nothing_and_asks_nobody(self):
        net = self.a_net()
        ahead = state(net)
        self.assertEqual(net.rest(self.fail, 0), 0)
        self.assertEqual(state(net), ahead)

    def test_pick_is_asked_once_for_each_note_and_never_behind_the_last(self):
        asked = []

        def pick(waiting):
            asked.append(waiting)
            return 0

        net = self.a_net()
        self.assertEqual(net.rest(pick, 9), 9)
        self.assertEqual(len(asked), 9)
        self.assertEqual(net.rest(pick), len(asked) - 9)

    def test_the_remainder_is_meant(self):
        for answer in (0, 1, 2, 3, 4, 5, 7, 8, 100, 10 ** 30, -1, -2, -3, -4, -5, -8, -9, -100, -(10 ** 30), 10 ** 5000):
            net = self.a_net()
            for turn in range(30):
                waiting = net.waiting()
                self.assertEqual(net.rest(lambda directions: answer, 1), 1)
                place = answer % len(waiting)
                self.assertEqual(net.log()[-1], ("carry",) + waiting[place])

    def test_pick_is_asked_with_what_waits(self):
        net = self.a_net()

        def pick(waiting):
            self.assertIsInstance(waiting, list)
            self.assertNotEqual(waiting, [])
            self.assertEqual(waiting, net.waiting())
            return 3

        self.assertEqual(net.rest(pick), self.a_net().rest(lambda waiting: 3))

    def test_pick_is_asked_with_a_new_list_each_time(self):
        asked = []
        copies = []

        def pick(waiting):
            asked.append(waiting)
            copies.append(list(waiting))
            return 1

        net = self.a_net()
        net.rest(pick)
        self.assertEqual(asked, copies)
        self.assertEqual(len({id(waiting) for waiting in asked}), len(asked))

    def test_what_pick_does_to_its_list_changes_nothing(self):
        def clears(waiting):
            place = len(waiting) - 1
            waiting.clear()
            return place

        def turns(waiting):
            place = len(waiting) - 1
            waiting.reverse()
            waiting.extend([(0, 0)] * 5)
            return place

        def replaces(waiting):
            place = len(waiting) - 1
            waiting[:] = [(7, 8)] * 9
            return place

        whole = self.a_net()
        carried = whole.rest(last_of)
        for pick in (clears, turns, replaces):
            net = self.a_net()
            self.assertEqual(net.rest(pick), carried)
            self.assertEqual(state(net), state(whole))

    def test_carried_notes_are_deeds(self):
        net = self.a_net()
        other = Net(4)
        net.rest(by_turns(2))
        for deed in net.log():
            other.do(deed)
        self.assertEqual(state(net), state(other))

    def test_first_of_and_last_of(self):
        for pick, place in ((first_of, 0), (last_of, -1)):
            net = self.a_net()
            while net.waiting():
                meant = net.waiting()[place]
                net.rest(pick, 1)
                self.assertEqual(net.log()[-1], ("carry",) + meant)

    def test_by_turns_goes_on_where_it_stood(self):
        net = self.a_net()
        other = self.a_net()
        pick = by_turns(5)
        for most in (1, 4, 0, 10):
            net.rest(pick, most)
        net.rest(pick)
        other.rest(by_turns(5))
        self.assertEqual(state(net), state(other))

    def test_an_error_of_pick_goes_out_and_changes_nothing(self):
        net = self.a_net()
        ahead = state(net)
        with self.assertRaises(ZeroDivisionError):
            net.rest(lambda waiting: 1 // 0)
        self.assertEqual(state(net), ahead)


class Model:
    """Houses whose notes are handed on by hand, to be compared with a net."""

    def __init__(self, count):
        self.houses = [House(number) for number in range(count)]
        self.notes = {}
        self.sent = 0

    def refusal(self, deed):
        houses = deed[1:2] if deed[0] == "own" else deed[1:3]
        if max(houses) >= len(self.houses) or (len(houses) == 2 and houses[0] == houses[1]):
            return NoHouse
        if deed[0] == "own":
            return Owned if any(deed[2] in house.beginnings() for house in self.houses) else None
        if deed[0] == "come":
            return Tied if houses in self.notes else None
        if houses not in self.notes:
            return NotTied
        return NoNote if deed[0] == "carry" and not self.notes[houses] else None

    def send(self, one, written):
        for other, note in written:
            self.notes[(one, other)].append(note)
            self.sent += 1

    def do(self, word, one, other, length=None):
        self.sent = 0
        if word == "own":
            self.send(one, self.houses[one].own(other))
        elif word == "come":
            self.notes[(one, other)] = []
            self.notes[(other, one)] = []
            self.send(one, self.houses[one].meet(other, length))
            self.send(other, self.houses[other].meet(one, length))
        elif word == "fall":
            del self.notes[(one, other)], self.notes[(other, one)]
            self.send(one, self.houses[one].lose(other))
            self.send(other, self.houses[other].lose(one))
        else:
            self.send(other, self.houses[other].hear(one, self.notes[(one, other)].pop(0)))
        return self.sent


class AgainstTheModel(unittest.TestCase):
    def a_deed(self, chance, count):
        word = chance.choice(("own", "come", "come", "fall") + ("carry",) * 12)
        one = chance.randrange(count + 1)
        if word == "own":
            size = chance.randrange(4)
            return (word, one, (chance.randrange(2 ** size), size))
        other = chance.randrange(count + 1)
        return (word, one, other, chance.randrange(1, 100)) if word == "come" else (word, one, other)

    def test_some_rows_of_deeds(self):
        for seed in range(60):
            chance = random.Random(seed)
            count = chance.randrange(1, 6)
            net = Net(count)
            model = Model(count)
            for turn in range(150):
                deed = self.a_deed(chance, count)
                refusal = model.refusal(deed)
                if refusal is None:
                    self.assertEqual(net.do(deed), model.do(*deed))
                else:
                    self.assertRaises(refusal, net.do, deed)
            with self.subTest(seed=seed):
                self.assertEqual(notes_of(net), model.notes)
                for number in range(count):
                    shown = state_of_house(net.house(number), count)
                    self.assertEqual(shown, state_of_house(model.houses[number], count))


if __name__ == "__main__":
    unittest.main()
