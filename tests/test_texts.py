import unittest

from posthouse.errors import BadText
from posthouse.texts import read_address, read_beginning, shown_address, shown_beginning

BEGINNINGS = (
    ((0, 0), "*"),
    ((0, 1), "0*"),
    ((1, 1), "1*"),
    ((1, 2), "01*"),
    ((2, 2), "10*"),
    ((1, 8), "00000001*"),
    ((0, 15), "000000000000000*"),
    ((32767, 15), "111111111111111*"),
    ((0, 16), "0000000000000000"),
    ((1, 16), "0000000000000001"),
    ((32768, 16), "1000000000000000"),
    ((65535, 16), "1111111111111111"),
)
ADDRESSES = (
    (0, "0.0"), (1, "0.1"), (255, "0.255"), (256, "1.0"), (257, "1.1"), (10, "0.10"), (100, "0.100"),
    (12 * 256 + 255, "12.255"), (65280, "255.0"), (65535, "255.255"),
)
BLANKS = (" ", "  ", "\t", "\n", "\n\n")
NO_BEGINNINGS = (
    "", "**", "***", "0**", "*0", "*01", "0*1", "0*1*", "*0*", "0", "1", "01", "2*", "02*", "a*", "o*", "-1*", "+1*",
    "-*", "+*", ".*", "0.1", "0_1*", "0b1*", "0b01*", "~", "01?", "01%", "(0, 0)", "0,1*",
    "0" * 15, "1" * 15, "0" * 16 + "*", "1" * 16 + "*", "0" * 17, "1" * 17, "0" * 17 + "*", "0" * 14,
    "0" * 15 + "2", "2" + "0" * 15, "0" * 15 + ".", "-" + "0" * 15, "0" * 15 + "**", "0" * 14 + "**",
    "0" * 5000, "1" * 5000 + "*", "*" * 16, "*" * 5000,
)
NO_ADDRESSES = (
    "", ".", "..", "0", "1", "255", "256", "65535", "0.", ".0", "0..0", ".0.0", "0.0.", "0.0.0", "1.2.3", "0.0.0.0",
    "00.0", "0.00", "01.0", "0.01", "001.0", "0.001", "0.010", "000.0", "0.0255", "0255.0", "012.255",
    "256.0", "0.256", "256.256", "255.256", "256.255", "300.1", "1.300", "999.0", "1000.0", "0.1000",
    "-1.0", "0.-1", "-0.0", "0.-0", "+1.0", "0.+1", "+0.0", "1_0.0", "0.1_0", "1,0", "0:1", "a.b", "0x1.0", "0.a",
    "1e1.0", "0.1*", "*.1", "0.1a", "a0.1", "*", "0*", "~.0", "0" * 5000 + ".0", "0." + "9" * 5000, "9" * 5000 + ".0",
)


def with_blanks(text):
    return [text[:at] + blank + text[at:] for blank in BLANKS for at in range(len(text) + 1)]


class Beginnings(unittest.TestCase):
    def test_shown(self):
        for beginning, text in BEGINNINGS:
            with self.subTest(text=text):
                self.assertEqual(shown_beginning(beginning), text)

    def test_read(self):
        for beginning, text in BEGINNINGS:
            with self.subTest(text=text):
                found = read_beginning(text)
                self.assertIs(type(found), tuple)
                self.assertEqual(found, beginning)

    def test_written_and_read_again(self):
        for size in range(17):
            for bits in {0, (1 << size) // 3, (1 << size) // 2, (1 << size) - 1}:
                with self.subTest(bits=bits, size=size):
                    self.assertEqual(read_beginning(shown_beginning((bits, size))), (bits, size))

    def test_bad_texts(self):
        for text in NO_BEGINNINGS + tuple(text for number, text in ADDRESSES):
            with self.subTest(text=text):
                with self.assertRaises(BadText):
                    read_beginning(text)

    def test_blanks_anywhere(self):
        for beginning, text in BEGINNINGS:
            for blanked in with_blanks(text):
                with self.subTest(text=blanked):
                    with self.assertRaises(BadText):
                        read_beginning(blanked)

    def test_every_single_sign_in_a_place_of_a_bit(self):
        for code in list(range(32, 127)) + [9, 10]:
            with self.subTest(sign=chr(code)):
                if chr(code) in "01":
                    self.assertEqual(read_beginning("1" + chr(code) + "*"), (2 + int(chr(code)), 2))
                else:
                    with self.assertRaises(BadText):
                        read_beginning("1" + chr(code) + "*")


class Addresses(unittest.TestCase):
    def test_shown(self):
        for address, text in ADDRESSES:
            with self.subTest(text=text):
                self.assertEqual(shown_address(address), text)

    def test_read(self):
        for address, text in ADDRESSES:
            with self.subTest(text=text):
                found = read_address(text)
                self.assertIs(type(found), int)
                self.assertEqual(found, address)

    def test_every_one_written_and_read_again(self):
        for address in range(65536):
            if read_address(shown_address(address)) != address:
                self.fail(address)

    def test_bad_texts(self):
        for text in NO_ADDRESSES + tuple(text for beginning, text in BEGINNINGS):
            with self.subTest(text=text):
                with self.assertRaises(BadText):
                    read_address(text)

    def test_blanks_anywhere(self):
        for address, text in ADDRESSES:
            for blanked in with_blanks(text):
                with self.subTest(text=blanked):
                    with self.assertRaises(BadText):
                        read_address(blanked)

    def test_every_single_sign_in_a_place_of_a_figure(self):
        for code in list(range(32, 127)) + [9, 10]:
            with self.subTest(sign=chr(code)):
                if chr(code) in "0123456789":
                    self.assertEqual(read_address("1" + chr(code) + ".7"), (10 + int(chr(code))) * 256 + 7)
                else:
                    with self.assertRaises(BadText):
                        read_address("1" + chr(code) + ".7")


if __name__ == "__main__":
    unittest.main()
