import unittest

from posthouse import errors

NAMES = ("BadText", "NoRow", "Tied", "NotTied", "Owned", "NoHouse", "NoNote", "BadDeed")


class Errors(unittest.TestCase):
    def test_post_error_stands_straight_under_value_error(self):
        self.assertEqual(errors.PostError.__bases__, (ValueError,))

    def test_each_refusal_stands_straight_below_post_error(self):
        for name in NAMES:
            with self.subTest(name=name):
                refusal = getattr(errors, name)
                self.assertEqual(refusal.__name__, name)
                self.assertEqual(refusal.__bases__, (errors.PostError,))

    def test_no_refusal_stands_under_another(self):
        for one in NAMES:
            for other in NAMES:
                with self.subTest(one=one, other=other):
                    below = issubclass(getattr(errors, one), getattr(errors, other))
                    self.assertEqual(below, one == other)

    def test_refusals_can_be_raised_and_taken(self):
        for name in NAMES:
            for taken in (getattr(errors, name), errors.PostError, ValueError):
                with self.subTest(name=name, taken=taken):
                    with self.assertRaises(taken):
                        raise getattr(errors, name)("words")


if __name__ == "__main__":
    unittest.main()
