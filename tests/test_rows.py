import unittest

from posthouse.errors import BadText
from posthouse.rows import asked_by

GOOD = (
    ("net 1", ("net", 1)),
    ("net 32", ("net", 32)),
    ("net 10", ("net", 10)),
    ("own 0 *", ("own", 0, (0, 0))),
    ("own 31 01*", ("own", 31, (1, 2))),
    ("own 7 0000000000000001", ("own", 7, (1, 16))),
    ("own 7 111111111111111*", ("own", 7, (32767, 15))),
    ("come 0 31 1", ("come", 0, 31, 1)),
    ("come 31 0 99", ("come", 31, 0, 99)),
    ("come 4 4 10", ("come", 4, 4, 10)),
    ("fall 0 31", ("fall", 0, 31)),
    ("fall 31 0", ("fall", 31, 0)),
    ("fall 5 5", ("fall", 5, 5)),
    ("carry 0 31", ("carry", 0, 31)),
    ("carry 31 0", ("carry", 31, 0)),
    ("carry 0 0", ("carry", 0, 0)),
    ("rest", ("rest",)),
    ("rest 0", ("rest", 0)),
    ("rest 1", ("rest", 1)),
    ("rest 100", ("rest", 100)),
    ("rest 999999999", ("rest", 999999999)),
    ("rest 100000000", ("rest", 100000000)),
    ("table 0", ("table", 0)),
    ("table 31", ("table", 31)),
    ("road 0 0.0", ("road", 0, 0)),
    ("road 31 255.255", ("road", 31, 65535)),
    ("road 9 12.255", ("road", 9, 3327)),
    ("way 0 31", ("way", 0, 31)),
    ("way 31 0", ("way", 31, 0)),
    ("way 3 3", ("way", 3, 3)),
    ("ties", ("ties",)),
    ("waiting", ("waiting",)),
)

# Of each row the parts that are numbers, and what else may not stand in the place of each.
NO_HOUSES = ("32", "33", "99", "100", "999999999", "*", "0*")
NO_COUNTS = ("0", "33", "34", "99", "999999999", "*")
NO_LENGTHS = ("0", "100", "101", "999999999", "*")
NO_NUMBERS = (
    "00", "01", "000", "010", "031", "0000000001", "1000000000", "0000000000", "9999999999", "9" * 5000, "0" * 5000,
    "-1", "-0", "+1", "+0", "--1", "1-", "1.0", "0.1", "1.", ".1", "1,0", "1_0", "1e1", "0x1", "0b1", "a", "one", "H", "N",
    "COUNT", "LENGTH", "None", "True", "False", "'1'", "(1)", "1;", "~", "1\t", "\t1", "1\t1", "\t",
)
NO_BEGINNINGS = (
    "0", "1", "01", "**", "*0", "2*", "0*1", "0.1", "-", "-1*", "a*", "0" * 15, "0" * 17, "0" * 16 + "*", "0" * 17 + "*",
    "(0,0)", "BEGINNING", "\t*", "*\t",
)
NO_ADDRESSES = (
    "0", "1", "65535", "0.", ".0", ".", "0.0.0", "256.0", "0.256", "00.0", "0.00", "01.1", "1.01", "-1.0", "0.-1", "+1.0",
    "a.b", "0:1", "0,1", "*", "0*", "1000.0", "0.1000", "ADDRESS", "0.1\t", "\t0.1", "0.\t1",
)
PARTS = (
    ("net", ("COUNT",)),
    ("own", ("H", "BEGINNING")),
    ("come", ("H", "H", "LENGTH")),
    ("fall", ("H", "H")),
    ("carry", ("H", "H")),
    ("rest", ()),
    ("rest", ("N",)),
    ("table", ("H",)),
    ("road", ("H", "ADDRESS")),
    ("way", ("H", "H")),
    ("ties", ()),
    ("waiting", ()),
)
FITTING = {"COUNT": "3", "H": "2", "LENGTH": "5", "N": "6", "BEGINNING": "01*", "ADDRESS": "0.1"}
UNFIT = {
    "COUNT": NO_COUNTS + NO_NUMBERS,
    "H": NO_HOUSES + NO_NUMBERS,
    "LENGTH": NO_LENGTHS + NO_NUMBERS,
    "N": NO_NUMBERS + ("*", "0*"),
    "BEGINNING": NO_BEGINNINGS,
    "ADDRESS": NO_ADDRESSES,
}


def fitting_words(word, kinds):
    return [word] + [FITTING[kind] for kind in kinds]


class Forms(unittest.TestCase):
    def check_none(self, row):
        with self.subTest(row=row[:60]):
            self.assertIsNone(asked_by(row))

    def test_each_form_and_its_bounds(self):
        for row, asked in GOOD:
            with self.subTest(row=row):
                found = asked_by(row)
                self.assertIs(type(found), tuple)
                self.assertEqual(found, asked)
                self.assertEqual([type(part) for part in found], [type(part) for part in asked])

    def test_every_number_within_the_bounds(self):
        for number in range(110):
            self.assertEqual(asked_by(f"net {number}"), ("net", number) if 1 <= number <= 32 else None)
            self.assertEqual(asked_by(f"table {number}"), ("table", number) if number <= 31 else None)
            self.assertEqual(asked_by(f"come 0 1 {number}"), ("come", 0, 1, number) if 1 <= number <= 99 else None)
            self.assertEqual(asked_by(f"rest {number}"), ("rest", number))

    def test_blanks_ahead_behind_and_between(self):
        for row, asked in GOOD:
            words = row.split()
            for ahead, between, behind in ((" ", " ", ""), ("", " ", " "), ("", "  ", ""), ("   ", "     ", "  ")):
                self.assertEqual(asked_by(ahead + between.join(words) + behind), asked)

    def test_no_words(self):
        for row in ("", " ", "  ", " " * 1000):
            self.check_none(row)

    def test_each_part_that_does_not_fit(self):
        for word, kinds in PARTS:
            self.assertIsNotNone(asked_by(" ".join(fitting_words(word, kinds))))
            for place, kind in enumerate(kinds):
                for unfit in UNFIT[kind]:
                    words = fitting_words(word, kinds)
                    words[place + 1] = unfit
                    self.check_none(" ".join(words))

    def test_too_few_words(self):
        for word, kinds in PARTS:
            for many in range(len(kinds)):
                if (word, many) != ("rest", 0):
                    self.check_none(" ".join(fitting_words(word, kinds)[:many + 1]))

    def test_too_many_words(self):
        for word, kinds in PARTS:
            for more in ("0", "1", "5", "*", "0.1", "x", word, "0 0", "1 1 1"):
                row = " ".join(fitting_words(word, kinds) + [more])
                if (word, kinds, more) not in [("rest", (), "0"), ("rest", (), "1"), ("rest", (), "5")]:
                    self.check_none(row)

    def test_parts_in_another_order(self):
        for row in ("own * 0", "road 0.1 0", "3 net", "0 table", "0 fall 1", "come 50 1 2", "1 2 way", "5 rest"):
            self.check_none(row)

    def test_other_words(self):
        for row in (
            "x", "nets 3", "ne 3", "Net 3", "NET 3", "net3", "n et 3", "owns 0 *", "OWN 0 *", "meet 0 1 5", "Come 0 1 5",
            "lose 0 1", "Fall 0 1", "hear 0 1", "Carry 0 1", "REST", "rests", "rest.", "res t", "Table 0", "tables 0", "Road 0 0.0",
            "ring 0 0.0", "Way 0 1", "ways 0 1", "Ties", "tie", "ties;", "Waiting", "wait", "log", "count", "house 0", "0", "1 2 3",
            "*", "0.1", "# net 3", "net, 3", "'net' 3", "~", "no row", "ok", "COUNT 3",
        ):
            self.check_none(row)

    def test_tabs_and_line_feeds_part_no_words(self):
        for row in ("net\t3", "\tnet 3", "net 3\t", "rest\t", "\tties", "\t", "net\n3", "net 3\n", "\nties", "ties\n", "\n", "a\nb"):
            self.check_none(row)

    def test_words_of_great_length(self):
        for row in ("x" * 10000, "net " + "1" * 10000, "net 3" + " 3" * 5000, "own 0 " + "0" * 10000 + "*"):
            self.check_none(row)

    def test_whatever_is_no_text(self):
        for thing in (None, True, False, 0, 3, 10 ** 5000, [], ["net", "3"], (), ("net", 3), {}, {"net": 3}, b"net 3", 1.5):
            with self.assertRaises(BadText) as caught:
                asked_by(thing)
            self.assertIs(caught.exception.__class__, BadText)


if __name__ == "__main__":
    unittest.main()
