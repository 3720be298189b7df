import random
import unittest

from posthouse.errors import NotTied, Tied
from posthouse.ways import Ways

GOALS = range(8)


def tied(*lengths):
    ways = Ways()
    for neighbour, length in lengths:
        ways.tie(neighbour, length)
    return ways


def shown(ways):
    return (
        [(neighbour, ways.length(neighbour)) for neighbour in ways.neighbours()],
        [(goal, ways.mark(goal)) for goal in ways.goals()],
        [ways.way(goal) for goal in range(40)],
    )


class Plain:
    """The ways by the document's words: every goal is looked at behind each call."""

    def __init__(self):
        self.lengths = {}
        self.told = {}
        self.marks = {}

    def way(self, goal):
        best = None
        mark = self.marks.get(goal)
        for (neighbour, about), (number, far) in self.told.items():
            if about != goal or far is None:
                continue
            if mark is None or number > mark[0] or (number == mark[0] and far < mark[1]):
                length = far + self.lengths[neighbour]
                if best is None or (-number, length, neighbour) < (-best[0], best[1], best[2]):
                    best = (number, length, neighbour)
        return best

    def better_marks(self):
        for goal in GOALS:
            way = self.way(goal)
            if way is not None:
                mark = self.marks.get(goal)
                if mark is None or way[0] > mark[0]:
                    self.marks[goal] = way[:2]
                else:
                    self.marks[goal] = (mark[0], min(mark[1], way[1]))

    def tie(self, neighbour, length):
        self.lengths[neighbour] = length
        self.better_marks()

    def untie(self, neighbour):
        del self.lengths[neighbour]
        self.told = {key: telling for key, telling in self.told.items() if key[0] != neighbour}
        self.better_marks()

    def hear(self, neighbour, goal, number, far):
        self.told[(neighbour, goal)] = (number, far)
        self.better_marks()


class Neighbours(unittest.TestCase):
    def test_nothing_at_first(self):
        ways = Ways()
        self.assertEqual(ways.neighbours(), [])
        self.assertEqual(ways.goals(), [])
        for goal in range(32):
            self.assertIsNone(ways.mark(goal))
            self.assertIsNone(ways.way(goal))

    def test_tie_and_length(self):
        ways = Ways()
        self.assertIsNone(ways.tie(4, 1))
        self.assertIsNone(ways.tie(0, 99))
        self.assertEqual(ways.length(4), 1)
        self.assertEqual(ways.length(0), 99)

    def test_neighbours_rise(self):
        ways = tied((9, 1), (31, 2), (0, 3), (10, 4), (2, 5))
        self.assertEqual(ways.neighbours(), [0, 2, 9, 10, 31])
        ways.untie(9)
        self.assertEqual(ways.neighbours(), [0, 2, 10, 31])
        ways.tie(9, 7)
        self.assertEqual(ways.neighbours(), [0, 2, 9, 10, 31])

    def test_lists_told_are_the_askers_own(self):
        ways = tied((9, 1), (2, 1))
        ways.hear(9, 5, 1, 0)
        for ask, wanted in ((ways.neighbours, [2, 9]), (ways.goals, [5])):
            told = ask()
            told.append(77)
            told[0] = 66
            self.assertEqual(ask(), wanted)
            self.assertIsNot(ask(), ask())

    def test_what_is_done_later_changes_no_list(self):
        ways = tied((9, 1), (2, 1))
        ways.hear(9, 5, 1, 0)
        neighbours = ways.neighbours()
        goals = ways.goals()
        ways.untie(2)
        ways.tie(3, 1)
        ways.hear(3, 4, 1, 0)
        self.assertEqual((neighbours, goals), ([2, 9], [5]))

    def test_tied_already(self):
        ways = tied((3, 10), (0, 4))
        ways.hear(3, 5, 2, 7)
        before = shown(ways)
        for neighbour, length in ((3, 10), (3, 11), (0, 1)):
            with self.assertRaises(Tied):
                ways.tie(neighbour, length)
            self.assertEqual(shown(ways), before)

    def test_not_tied(self):
        ways = tied((3, 10))
        ways.hear(3, 5, 2, 7)
        before = shown(ways)
        for neighbour in (0, 4, 5, 31):
            for call in (
                lambda: ways.untie(neighbour),
                lambda: ways.length(neighbour),
                lambda: ways.hear(neighbour, 5, 9, 0),
                lambda: ways.hear(neighbour, 6, 1, None),
            ):
                with self.assertRaises(NotTied):
                    call()
                self.assertEqual(shown(ways), before)
        ways.tie(4, 1)
        self.assertEqual(ways.way(5), (2, 17, 3))
        self.assertEqual(ways.goals(), [5])

    def test_not_tied_any_more(self):
        ways = tied((3, 10))
        self.assertIsNone(ways.untie(3))
        for call in (lambda: ways.untie(3), lambda: ways.length(3), lambda: ways.hear(3, 5, 1, 1)):
            with self.assertRaises(NotTied):
                call()
        self.assertEqual(shown(ways), shown(Ways()))

    def test_a_tie_that_comes_again_has_its_new_length(self):
        ways = tied((3, 10))
        ways.untie(3)
        ways.tie(3, 20)
        self.assertEqual(ways.length(3), 20)
        ways.hear(3, 5, 1, 1)
        self.assertEqual(ways.way(5), (1, 21, 3))


class Hearing(unittest.TestCase):
    def test_a_first_telling(self):
        ways = tied((3, 10))
        self.assertIsNone(ways.hear(3, 5, 2, 7))
        self.assertEqual(ways.way(5), (2, 17, 3))
        self.assertEqual(ways.mark(5), (2, 17))
        self.assertIs(type(ways.way(5)), tuple)
        self.assertIs(type(ways.mark(5)), tuple)

    def test_of_the_neighbour_itself(self):
        ways = tied((3, 10))
        ways.hear(3, 3, 1, 0)
        self.assertEqual(ways.way(3), (1, 10, 3))
        self.assertEqual(ways.mark(3), (1, 10))

    def test_goals_have_nothing_to_do_with_each_other(self):
        ways = tied((3, 10), (4, 1))
        ways.hear(3, 5, 2, 7)
        ways.hear(4, 6, 9, 0)
        self.assertEqual(ways.way(5), (2, 17, 3))
        self.assertEqual(ways.way(6), (9, 1, 4))
        self.assertIsNone(ways.way(3))
        self.assertIsNone(ways.way(4))

    def test_a_telling_stands_in_the_place_of_the_one_ahead(self):
        ways = tied((3, 10))
        ways.hear(3, 5, 2, 7)
        ways.hear(3, 5, 2, 9)
        self.assertEqual(ways.way(5), (2, 19, 3))
        self.assertEqual(ways.mark(5), (2, 17))
        ways.hear(3, 5, 2, 4)
        self.assertEqual(ways.way(5), (2, 14, 3))
        self.assertEqual(ways.mark(5), (2, 14))
        ways.hear(3, 5, 3, 30)
        self.assertEqual(ways.way(5), (3, 40, 3))
        self.assertEqual(ways.mark(5), (3, 40))

    def test_an_older_telling_in_the_place_of_a_newer_one(self):
        ways = tied((3, 10))
        ways.hear(3, 5, 3, 7)
        ways.hear(3, 5, 2, 0)
        self.assertIsNone(ways.way(5))
        self.assertEqual(ways.mark(5), (3, 17))

    def test_far_none_in_the_place_of_a_way(self):
        ways = tied((3, 10))
        ways.hear(3, 5, 2, 7)
        ways.hear(3, 5, 9, None)
        self.assertIsNone(ways.way(5))
        self.assertEqual(ways.mark(5), (2, 17))
        ways.hear(3, 5, 2, 16)
        self.assertEqual(ways.way(5), (2, 26, 3))

    def test_far_none_gives_no_mark(self):
        ways = tied((3, 10))
        ways.hear(3, 5, 2, None)
        self.assertIsNone(ways.way(5))
        self.assertIsNone(ways.mark(5))
        self.assertEqual(ways.goals(), [])

    def test_the_edge_of_least(self):
        for far, wanted in ((16, (2, 17, 4)), (17, None), (18, None)):
            with self.subTest(far=far):
                ways = tied((3, 10), (4, 1))
                ways.hear(3, 5, 2, 7)
                ways.untie(3)
                ways.hear(4, 5, 2, far)
                self.assertEqual(ways.way(5), wanted)
                self.assertEqual(ways.mark(5), (2, 17))

    def test_the_edge_of_the_number(self):
        for number, way, mark in ((1, None, (2, 17)), (2, None, (2, 17)), (3, (3, 51, 4), (3, 51))):
            with self.subTest(number=number):
                ways = tied((3, 10), (4, 1))
                ways.hear(3, 5, 2, 7)
                ways.untie(3)
                ways.hear(4, 5, number, 50)
                self.assertEqual(ways.way(5), way)
                self.assertEqual(ways.mark(5), mark)

    def test_a_lesser_number_is_not_used_however_near(self):
        ways = tied((3, 10), (4, 1))
        ways.hear(3, 5, 2, 7)
        ways.hear(4, 5, 1, 0)
        self.assertEqual(ways.way(5), (2, 17, 3))
        self.assertEqual(ways.mark(5), (2, 17))

    def test_least_stays_when_the_way_gets_longer(self):
        ways = tied((3, 10), (4, 30))
        ways.hear(3, 5, 2, 7)
        ways.hear(4, 5, 2, 16)
        self.assertEqual(ways.way(5), (2, 17, 3))
        ways.hear(3, 5, 2, 17)
        self.assertEqual(ways.way(5), (2, 46, 4))
        self.assertEqual(ways.mark(5), (2, 17))

    def test_lengths_beyond_the_bounds(self):
        ways = tied((3, 100), (40, 150))
        ways.hear(3, 35, 1, 1000)
        ways.hear(40, 35, 1, 1)
        self.assertEqual(ways.way(35), (1, 151, 40))


class Choice(unittest.TestCase):
    def test_the_greatest_number(self):
        ways = tied((1, 1), (2, 50), (3, 1))
        ways.hear(1, 5, 1, 0)
        ways.hear(2, 5, 3, 70)
        ways.hear(3, 5, 2, 0)
        self.assertEqual(ways.way(5), (3, 120, 2))

    def test_the_least_length_and_not_the_least_far(self):
        ways = tied((1, 50), (2, 10), (3, 20))
        for neighbour, far in ((1, 1), (2, 30), (3, 22)):
            ways.hear(neighbour, 5, 4, far)
        self.assertEqual(ways.way(5), (4, 40, 2))
        self.assertEqual(ways.mark(5), (4, 40))

    def test_the_least_neighbour(self):
        for order in ((1, 2, 9), (9, 2, 1), (2, 9, 1)):
            ways = tied((9, 3), (1, 5), (2, 4))
            fars = {9: 7, 1: 5, 2: 6}
            for neighbour in order:
                ways.hear(neighbour, 6, 4, fars[neighbour])
            self.assertEqual(ways.way(6), (4, 10, 1))
            ways.untie(1)
            self.assertEqual(ways.way(6), (4, 10, 2))
            ways.untie(2)
            self.assertEqual(ways.way(6), (4, 10, 9))

    def test_tellings_that_may_not_be_used_are_passed_over(self):
        ways = tied((1, 1), (2, 40), (3, 1))
        ways.hear(1, 5, 4, 9)
        ways.hear(2, 5, 4, 3)
        ways.hear(3, 5, 4, 10)
        self.assertEqual(ways.mark(5), (4, 10))
        ways.untie(1)
        self.assertEqual(ways.way(5), (4, 43, 2))
        ways.untie(2)
        self.assertIsNone(ways.way(5))
        self.assertEqual(ways.mark(5), (4, 10))

    def test_asked_again_it_tells_the_same(self):
        ways = tied((1, 1), (2, 40))
        ways.hear(1, 5, 4, 9)
        ways.hear(2, 5, 4, 3)
        before = shown(ways)
        for asked in range(3):
            self.assertEqual(ways.way(5), (4, 10, 1))
            self.assertEqual(shown(ways), before)


class Untying(unittest.TestCase):
    def test_all_tellings_of_the_neighbour_go(self):
        ways = tied((3, 10), (4, 20))
        for goal in (5, 6, 3):
            ways.hear(3, goal, 2, 1)
        ways.hear(4, 6, 2, 10)
        ways.untie(3)
        self.assertEqual([ways.way(goal) for goal in (3, 5, 6)], [None, None, (2, 30, 4)])
        ways.tie(3, 10)
        self.assertEqual([ways.way(goal) for goal in (3, 5, 6)], [None, None, (2, 30, 4)])

    def test_marks_stay(self):
        ways = tied((3, 10), (4, 20))
        ways.hear(3, 5, 2, 1)
        ways.hear(3, 6, 7, 0)
        ways.hear(4, 6, 7, 5)
        ways.untie(3)
        self.assertEqual([ways.mark(goal) for goal in (5, 6)], [(2, 11), (7, 10)])
        ways.untie(4)
        self.assertEqual([ways.mark(goal) for goal in (5, 6)], [(2, 11), (7, 10)])
        self.assertEqual(ways.goals(), [5, 6])
        ways.tie(3, 10)
        self.assertEqual([ways.mark(goal) for goal in (5, 6)], [(2, 11), (7, 10)])

    def test_a_newer_telling_brings_a_way_again(self):
        ways = tied((3, 10))
        ways.hear(3, 5, 2, 1)
        ways.untie(3)
        ways.tie(3, 30)
        ways.hear(3, 5, 2, 11)
        self.assertIsNone(ways.way(5))
        ways.hear(3, 5, 3, 11)
        self.assertEqual(ways.way(5), (3, 41, 3))
        self.assertEqual(ways.mark(5), (3, 41))


class Goals(unittest.TestCase):
    def test_goals_rise(self):
        ways = tied((3, 10))
        for goal in (31, 3, 10, 9, 0):
            ways.hear(3, goal, 1, 1)
        ways.hear(3, 4, 1, None)
        self.assertEqual(ways.goals(), [0, 3, 9, 10, 31])


class Objects(unittest.TestCase):
    def test_two_do_not_know_of_each_other(self):
        one = tied((3, 10))
        other = Ways()
        one.hear(3, 5, 1, 1)
        self.assertEqual(shown(other), shown(Ways()))
        other.tie(3, 1)
        other.hear(3, 5, 9, 1)
        self.assertEqual(one.way(5), (1, 11, 3))


class ByTheWords(unittest.TestCase):
    def test_many_calls(self):
        for seed in range(60):
            chance = random.Random(seed)
            ways = Ways()
            plain = Plain()
            for step in range(60):
                kind = chance.randrange(10)
                neighbour = chance.randrange(5)
                if neighbour not in plain.lengths:
                    call = ("tie", neighbour, chance.choice((1, 1, 2, 3, 99)))
                elif kind == 0:
                    call = ("untie", neighbour)
                else:
                    far = chance.choice((None, 0, 1, 2, 3, 4, 5, 6, 30))
                    call = ("hear", neighbour, chance.choice(GOALS), chance.randrange(1, 3 + step // 15), far)
                getattr(ways, call[0])(*call[1:])
                getattr(plain, call[0])(*call[1:])
                with self.subTest(seed=seed, step=step, call=call):
                    self.assertEqual([ways.way(goal) for goal in GOALS], [plain.way(goal) for goal in GOALS])
                    self.assertEqual([ways.mark(goal) for goal in GOALS], [plain.marks.get(goal) for goal in GOALS])
                    self.assertEqual(ways.goals(), sorted(plain.marks))
                    self.assertEqual(ways.neighbours(), sorted(plain.lengths))


if __name__ == "__main__":
    unittest.main()
