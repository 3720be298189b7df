import unittest

from posthouse.notes import is_note

ORDERED = ((0, 0), (0, 1), (0, 16), (1, 16), (1, 2), (1, 1), (65535, 16))

NOTES = (
    ("way", 0, 1, 0, ()),
    ("way", 31, 1, 0, ()),
    ("way", 5, 10 ** 30, 10 ** 30, ()),
    ("way", 5, 2, None, ()),
    ("way", 5, 2, None, ((0, 0),)),
    ("way", 5, 2, 7, ((65535, 16),)),
    ("way", 5, 2, 7, ((0, 1), (1, 1))),
    ("way", 5, 2, 7, ((0, 1), (0, 2))),
    ("way", 5, 2, 7, ((3, 3), (1, 1))),
    ("way", 5, 2, 7, ORDERED),
    ("news", 0, 1),
    ("news", 31, 1),
    ("news", 5, 10 ** 30),
)

# In the place of a part that is to be a number; None is left out, since far may be None.
NO_NUMBERS = (True, False, "", "1", "0", [], [1], (), (1,), (1, 2), ((0, 0),))

NO_BEGINNINGS = (
    None, 0, 1, True, False, "", "*", "01*",
    [], [(0, 1)], [(0, 1), (1, 1)],
    (0, 1), (0,), (None,), (True,), ("*",), ("01*",), ((),), ([],), ([0, 1],), ((0, 1), [1, 1]), (((0, 1),),),
    ((0, 1), (0, 1)), ((0, 0), (0, 0)), ((0, 1), (1, 1), (1, 1)), ((0, 1), (1, 1), (0, 1)),
    ((1, 1), (0, 1)), ((0, 2), (0, 1)), ((0, 1), (0, 0)), ((1, 1), (3, 3)), ((0, 1), (2, 2), (1, 2)),
    ((0, 17),), ((2, 1),), ((-1, 1),), ((0, -1),), ((1, 0),), ((0, 1, 1),), ((0,),), ((0, 0), None),
    ((True, 1),), ((0, True),), ((False, 1),), ((0, 1), (True, 1)), ((None, 0),), (("0", 1),),
)


def with_part(note, place, part):
    return note[:place] + (part,) + note[place + 1:]


class Notes(unittest.TestCase):
    def check_none(self, thing):
        with self.subTest(thing=thing):
            self.assertIs(is_note(thing), False)

    def test_notes(self):
        for thing in NOTES:
            with self.subTest(thing=thing):
                self.assertIs(is_note(thing), True)

    def test_other_things(self):
        for thing in (
            None, True, False, 0, 1, -1, 10 ** 30, "", "way", "news", "way 5 2 7", [], (), [()], ((),), (None,),
            ("way",), ("news",), ("news", 5), ("way", 5), ["way"], (0, 1), (5, 1), [0, [1, [2]]],
        ):
            self.check_none(thing)

    def test_lists_in_a_notes_place(self):
        for note in NOTES:
            self.check_none(list(note))
            self.check_none([note])
            self.check_none((note,))

    def test_one_part_more_or_fewer(self):
        for note in NOTES:
            self.check_none(note[:-1])
            self.check_none(note[1:])
            for more in (None, 1, (), note[-1]):
                self.check_none(note + (more,))
                self.check_none((more,) + note)

    def test_the_word(self):
        texts = ("", "Way", "WAY", "ways", "way ", " way", "news ", "News", "new", "wa", "own")
        for word in texts + (None, 0, 1, True, (), [], ["way"], ("way",)):
            self.check_none((word, 5, 2, 7, ()))
            self.check_none((word, 5, 2))

    def test_each_word_with_the_parts_of_the_other(self):
        self.check_none(("news", 5, 2, 7, ()))
        self.check_none(("way", 5, 2))

    def test_houses_at_their_bounds(self):
        for note in (("way", 5, 2, 7, ()), ("news", 5, 2)):
            for house in range(32):
                self.assertIs(is_note(with_part(note, 1, house)), True)
            for house in (-1, 32, 33, -32, 10 ** 30, -(10 ** 30), None) + NO_NUMBERS:
                self.check_none(with_part(note, 1, house))

    def test_numbers_and_counts_at_their_bounds(self):
        for note in (("way", 5, 2, 7, ()), ("news", 5, 2)):
            self.assertIs(is_note(with_part(note, 2, 1)), True)
            for number in (0, -1, -(10 ** 30), None) + NO_NUMBERS:
                self.check_none(with_part(note, 2, number))

    def test_far_at_its_bounds(self):
        note = ("way", 5, 2, 7, ())
        for far in (None, 0, 1, 99, 100, 10 ** 30):
            self.assertIs(is_note(with_part(note, 3, far)), True)
        for far in (-1, -2, -(10 ** 30)) + NO_NUMBERS:
            self.check_none(with_part(note, 3, far))

    def test_no_beginnings(self):
        for far in (None, 7):
            for beginnings in NO_BEGINNINGS:
                self.check_none(("way", 5, 2, far, beginnings))

    def test_beginnings_out_of_order_or_twice_at_each_place(self):
        for place in range(len(ORDERED) - 1):
            swapped = ORDERED[:place] + (ORDERED[place + 1], ORDERED[place]) + ORDERED[place + 2:]
            self.check_none(("way", 5, 2, 7, swapped))
        for place in range(len(ORDERED)):
            self.check_none(("way", 5, 2, 7, ORDERED[:place] + (ORDERED[place],) + ORDERED[place:]))

    def test_asking_leaves_lists_as_they_are(self):
        beginnings = [(1, 1), (0, 1)]
        note = ["way", 5, 2, 7, beginnings]
        is_note(note)
        is_note(tuple(note))
        self.assertEqual(note, ["way", 5, 2, 7, [(1, 1), (0, 1)]])


if __name__ == "__main__":
    unittest.main()
