import unittest

from posthouse.deeds import is_deed

DEEDS = (
    ("own", 0, (0, 0)),
    ("own", 31, (65535, 16)),
    ("own", 5, (1, 2)),
    ("come", 0, 31, 1),
    ("come", 31, 0, 99),
    ("come", 5, 6, 50),
    ("fall", 0, 31),
    ("fall", 31, 0),
    ("carry", 0, 31),
    ("carry", 31, 0),
    # Two that are the same are refused by a net, but the tuple is a deed.
    ("come", 5, 5, 1),
    ("fall", 5, 5),
    ("carry", 5, 5),
)

NO_NUMBERS = (None, True, False, "", "1", "0", [], [1], (), (1,), (1, 2), 1.0, 10 ** 30, -(10 ** 30), 10 ** 5000)

NO_BEGINNINGS = (
    None, 0, 1, True, False, "", "*", "01*", [], [0, 0], [(0, 0)], (), (0,), (0, 0, 0), ((0, 0),), ((0, 0), (1, 1)),
    (1, 0), (2, 1), (-1, 1), (0, 17), (65536, 16), (0, -1), (True, 1), (False, 1), (0, True), (0, False),
    (None, 1), (0, None), ("0", 1), (0, "1"), ([], 1), (0, ()), (0, 1.0), (0, 10 ** 5000), (10 ** 5000, 16),
)


def with_part(deed, place, part):
    return deed[:place] + (part,) + deed[place + 1:]


class Deeds(unittest.TestCase):
    def check_none(self, thing):
        self.assertIs(is_deed(thing), False)

    def test_deeds(self):
        for thing in DEEDS:
            with self.subTest(thing=thing):
                self.assertIs(is_deed(thing), True)

    def test_other_things(self):
        for thing in (
            None, True, False, 0, 1, -1, 10 ** 5000, "", "own", "fall", "fall 1 2", [], (), [()], ((),), (None,), ([],),
            ("own",), ("come",), ("fall",), ("carry",), ("fall", 1), (1, 2), (0, 1, 2), ("way", 5, 2, 7, ()),
            ("news", 5, 1), ("rest",), ("own", (0, 0)), {}, {"own": 1}, 1.5,
        ):
            self.check_none(thing)

    def test_lists_in_a_deeds_place(self):
        for deed in DEEDS:
            self.check_none(list(deed))
            self.check_none([deed])
            self.check_none((deed,))

    def test_one_part_more_or_fewer(self):
        for deed in DEEDS:
            with self.subTest(deed=deed):
                self.check_none(deed[:-1])
                self.check_none(deed[1:])
                for more in (None, 1, (), (0, 0), deed[-1]):
                    self.check_none(deed + (more,))
                    self.check_none((more,) + deed)

    def test_the_word(self):
        words = ("", "Own", "OWN", "own ", " own", "owns", "comes", "fal", "falls", "carr", "carried", "way", "news")
        for word in words + (None, 0, 1, True, (), [], ["own"], ("own",), ("fall", "carry")):
            for deed in DEEDS:
                self.check_none(with_part(deed, 0, word))

    def test_each_word_with_the_parts_of_another(self):
        for deed in (
            ("own", 1, 2), ("own", 1, 2, 3), ("own", 1, 2, (0, 0)), ("come", 1, 2), ("come", 1, (0, 0)),
            ("come", 1, 2, (0, 0)), ("fall", 1, 2, 3), ("carry", 1, 2, 3), ("fall", 1, (0, 0)), ("carry", 1, (0, 0)),
        ):
            with self.subTest(deed=deed):
                self.check_none(deed)

    def test_houses_at_their_bounds(self):
        for deed in (("own", 5, (1, 2)), ("come", 5, 6, 7), ("fall", 5, 6), ("carry", 5, 6)):
            for place in (1,) if deed[0] == "own" else (1, 2):
                with self.subTest(deed=deed, place=place):
                    for house in range(32):
                        self.assertIs(is_deed(with_part(deed, place, house)), True)
                    for house in (-1, 32, 33, -32) + NO_NUMBERS:
                        self.check_none(with_part(deed, place, house))

    def test_lengths_at_their_bounds(self):
        for length in range(1, 100):
            self.assertIs(is_deed(("come", 5, 6, length)), True)
        for length in (0, 100, -1, 101, -99) + NO_NUMBERS:
            self.check_none(("come", 5, 6, length))

    def test_beginnings(self):
        for size in range(17):
            self.assertIs(is_deed(("own", 5, (0, size))), True)
            self.assertIs(is_deed(("own", 5, (2 ** size - 1, size))), True)
            self.check_none(("own", 5, (2 ** size, size)))
        for thing in NO_BEGINNINGS:
            self.check_none(("own", 5, thing))

    def test_asking_leaves_lists_as_they_are(self):
        deed = ["own", 5, [1, 2]]
        is_deed(deed)
        is_deed(tuple(deed))
        self.assertEqual(deed, ["own", 5, [1, 2]])


if __name__ == "__main__":
    unittest.main()
