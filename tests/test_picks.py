import unittest

from posthouse.picks import by_turns, first_of, last_of

LISTS = ([(0, 1)], [(0, 1), (1, 0)], [(0, 1), (0, 2), (31, 0)], [(0, 1)] * 50)


class Picks(unittest.TestCase):
    def test_first_of(self):
        for waiting in LISTS:
            self.assertEqual(first_of(waiting), 0)

    def test_last_of(self):
        self.assertEqual([last_of(waiting) for waiting in LISTS], [0, 1, 2, 49])

    def test_numbers_and_no_truths(self):
        for pick in (first_of, last_of, by_turns(0)):
            for waiting in LISTS:
                self.assertIs(pick(waiting).__class__, int)

    def test_by_turns_from_any_start(self):
        for start in (0, 1, 7, -3, 10 ** 30, -(10 ** 30)):
            with self.subTest(start=start):
                pick = by_turns(start)
                self.assertEqual([pick([(0, 1)]) for turn in range(5)], [start + turn for turn in range(5)])

    def test_by_turns_whatever_waits(self):
        pick = by_turns(2)
        self.assertEqual([pick(waiting) for waiting in LISTS], [2, 3, 4, 5])

    def test_two_at_once(self):
        one = by_turns(5)
        other = by_turns(5)
        third = by_turns(-1)
        self.assertEqual([one([(0, 1)]), one([(0, 1)]), other([(0, 1)]), third([(0, 1)])], [5, 6, 5, -1])
        self.assertEqual([third([(0, 1)]), other([(0, 1)]), one([(0, 1)])], [0, 6, 7])

    def test_a_long_row_of_turns(self):
        pick = by_turns(0)
        for turn in range(5000):
            self.assertEqual(pick([(0, 1)]), turn)

    def test_lists_stay_as_they_are(self):
        for pick in (first_of, last_of, by_turns(0)):
            waiting = [(0, 1), (0, 2)]
            pick(waiting)
            self.assertEqual(waiting, [(0, 1), (0, 2)])


if __name__ == "__main__":
    unittest.main()
