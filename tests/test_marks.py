import itertools
import unittest

from posthouse.marks import better, bettered, may_use

MARKS = [(number, least) for number in (1, 2, 3, 10 ** 30) for least in (0, 1, 2, 5, 99, 10 ** 30)]


class Better(unittest.TestCase):
    def test_a_greater_number_is_better_whatever_the_least(self):
        self.assertIs(better((2, 50), (1, 1)), True)
        self.assertIs(better((2, 1), (1, 50)), True)
        self.assertIs(better((2, 7), (1, 7)), True)

    def test_a_lesser_number_is_not_better(self):
        self.assertIs(better((1, 1), (2, 50)), False)
        self.assertIs(better((1, 50), (2, 1)), False)
        self.assertIs(better((1, 7), (2, 7)), False)

    def test_of_the_same_number_the_lesser_least_is_better(self):
        self.assertIs(better((3, 6), (3, 7)), True)
        self.assertIs(better((3, 7), (3, 7)), False)
        self.assertIs(better((3, 8), (3, 7)), False)

    def test_a_telling_of_far_nought(self):
        self.assertIs(better((3, 0), (3, 1)), True)
        self.assertIs(better((2, 0), (3, 1)), False)
        self.assertIs(better((4, 0), (3, 1)), True)

    def test_of_any_two_marks_one_is_better_but_of_like_ones(self):
        for one, other in itertools.product(MARKS, MARKS):
            with self.subTest(one=one, other=other):
                wanted = one[0] > other[0] or (one[0] == other[0] and one[1] < other[1])
                self.assertIs(better(one, other), wanted)
                self.assertEqual(better(one, other) + better(other, one), one != other)


class MayUse(unittest.TestCase):
    def test_without_a_mark(self):
        for number in (1, 2, 99):
            for far in (0, 1, 500):
                with self.subTest(number=number, far=far):
                    self.assertIs(may_use(None, number, far), True)

    def test_a_greater_number(self):
        for far in (0, 4, 5, 6, 500):
            with self.subTest(far=far):
                self.assertIs(may_use((3, 5), 4, far), True)
                self.assertIs(may_use((3, 5), 100, far), True)

    def test_the_same_number(self):
        self.assertIs(may_use((3, 5), 3, 0), True)
        self.assertIs(may_use((3, 5), 3, 4), True)
        self.assertIs(may_use((3, 5), 3, 5), False)
        self.assertIs(may_use((3, 5), 3, 6), False)

    def test_a_lesser_number(self):
        for far in (0, 4, 5, 6):
            with self.subTest(far=far):
                self.assertIs(may_use((3, 5), 2, far), False)
                self.assertIs(may_use((3, 5), 1, far), False)

    def test_far_none(self):
        for mark in (None, (3, 5)):
            for number in (1, 2, 3, 4, 100):
                with self.subTest(mark=mark, number=number):
                    self.assertIs(may_use(mark, number, None), False)


class Bettered(unittest.TestCase):
    def test_without_a_mark(self):
        self.assertEqual(bettered(None, 1, 1), (1, 1))
        self.assertEqual(bettered(None, 7, 120), (7, 120))

    def test_a_greater_number(self):
        self.assertEqual(bettered((3, 5), 4, 4), (4, 4))
        self.assertEqual(bettered((3, 5), 4, 5), (4, 5))
        self.assertEqual(bettered((3, 5), 9, 77), (9, 77))

    def test_the_same_number(self):
        self.assertEqual(bettered((3, 5), 3, 4), (3, 4))
        self.assertEqual(bettered((3, 5), 3, 5), (3, 5))
        self.assertEqual(bettered((3, 5), 3, 6), (3, 5))

    def test_it_is_a_pair(self):
        for mark in (None, (3, 5), (2, 9)):
            self.assertIs(type(bettered(mark, 3, 6)), tuple)

    def test_no_mark_gets_worse(self):
        for mark in MARKS:
            for more, length in itertools.product((0, 1, 5), (1, 2, 3, 98, 99, 100)):
                with self.subTest(mark=mark, more=more, length=length):
                    self.assertIs(better(mark, bettered(mark, mark[0] + more, length)), False)


if __name__ == "__main__":
    unittest.main()
