import itertools
import unittest

from posthouse import bits
from posthouse.bits import begins, greatest, in_order, is_address, is_beginning, least, shared, within

SMALL = [(number, size) for size in range(5) for number in range(1 << size)]
LONG = [(number, size) for size in (8, 15, 16) for number in (0, 1, 90, (1 << size) - 2, (1 << size) - 1)]
SOME = SMALL + LONG
ADDRESSES = sorted(set(range(0, 65536, 257)) | {0, 1, 2, 89, 90, 91, 4095, 4096, 32767, 32768, 65533, 65534, 65535})

NO_ADDRESSES = (
    -1, -2, -65536, 65536, 65537, 10 ** 30, -(10 ** 30), True, False, None,
    "", "0", "0.1", "*", "None", [], [0], [0, 0], (), (0,), (0, 0), (0, 0, 0), (None,), [None], ["0"], [True],
)
NO_BEGINNINGS = (
    0, 1, -1, 16, 65536, 10 ** 30, True, False, None, "", "*", "00", "0", "0000000000000001",
    [], [0], [0, 0], [1, 1], [0, 0, 0], [(0, 0)], (), (0,), (1,), (0, 0, 0), (1, 1, 1), ((0, 0),), ((0, 0), (0, 0)),
    (True, 1), (False, 1), (False, 0), (0, False), (0, True), (1, True), (True, True), (False, False),
    (None, 0), (0, None), (None, None), ("0", 0), (0, "0"), ("0", "0"), ([0], 0), (0, [0]), ((), ()), ([], []),
    (0, -1), (0, -16), (-1, 0), (-1, 1), (-1, 16), (-1, -1), (-(10 ** 30), 16), (0, -(10 ** 30)),
    (0, 17), (1, 17), (65536, 17), (0, 18), (0, 10 ** 30), (1, 10 ** 30),
    (1, 0), (2, 0), (2, 1), (3, 1), (4, 2), (5, 2), (256, 8), (32768, 15), (65536, 16), (65537, 16), (10 ** 30, 16),
)


def signs(beginning):
    return format(beginning[0], "0%db" % beginning[1]) if beginning[1] else ""


def has(beginning, address):
    return format(address, "016b").startswith(signs(beginning))


class Kinds(unittest.TestCase):
    def test_width(self):
        self.assertEqual(bits.WIDTH, 16)
        self.assertIs(type(bits.WIDTH), int)

    def test_addresses(self):
        for thing in ADDRESSES:
            with self.subTest(thing=thing):
                self.assertIs(is_address(thing), True)

    def test_no_addresses(self):
        for thing in NO_ADDRESSES:
            with self.subTest(thing=thing):
                self.assertIs(is_address(thing), False)

    def test_beginnings(self):
        for thing in SOME:
            with self.subTest(thing=thing):
                self.assertIs(is_beginning(thing), True)

    def test_bits_at_the_bound_of_each_size(self):
        for size in range(17):
            with self.subTest(size=size):
                self.assertIs(is_beginning((0, size)), True)
                self.assertIs(is_beginning(((1 << size) - 1, size)), True)
                self.assertIs(is_beginning((1 << size, size)), False)
                self.assertIs(is_beginning((-1, size)), False)

    def test_no_beginnings(self):
        for thing in NO_BEGINNINGS:
            with self.subTest(thing=thing):
                self.assertIs(is_beginning(thing), False)

    def test_asking_leaves_lists_as_they_are(self):
        for thing, alike in (([0, 0], [0, 0]), ([], [])):
            is_address(thing)
            is_beginning(thing)
            self.assertEqual(thing, alike)


class Bounds(unittest.TestCase):
    def test_begins(self):
        for beginning in SOME:
            for address in ADDRESSES:
                with self.subTest(beginning=beginning, address=address):
                    self.assertIs(begins(beginning, address), has(beginning, address))

    def test_all_begins_every_address(self):
        self.assertTrue(all(begins((0, 0), address) is True for address in range(65536)))

    def test_sixteen_bits_begin_one_address(self):
        for alone in (0, 1, 32768, 65535):
            with self.subTest(alone=alone):
                found = [address for address in range(65536) if begins((alone, 16), address)]
                self.assertEqual(found, [alone])

    def test_least_and_greatest(self):
        for beginning in SOME:
            with self.subTest(beginning=beginning):
                self.assertEqual(least(beginning), int(signs(beginning).ljust(16, "0"), 2))
                self.assertEqual(greatest(beginning), int(signs(beginning).ljust(16, "1"), 2))

    def test_least_and_greatest_at_the_ends(self):
        self.assertEqual((least((0, 0)), greatest((0, 0))), (0, 65535))
        self.assertEqual((least((1, 1)), greatest((1, 1))), (32768, 65535))
        self.assertEqual((least((1, 2)), greatest((1, 2))), (16384, 32767))
        self.assertEqual((least((0, 15)), greatest((0, 15))), (0, 1))
        self.assertEqual((least((0, 16)), greatest((0, 16))), (0, 0))
        self.assertEqual((least((65535, 16)), greatest((65535, 16))), (65535, 65535))


class Pairs(unittest.TestCase):
    def test_within(self):
        for one, other in itertools.product(SOME, SOME):
            with self.subTest(one=one, other=other):
                self.assertIs(within(one, other), signs(one).startswith(signs(other)))

    def test_within_is_of_addresses(self):
        for one, other in itertools.product(SMALL, SMALL):
            with self.subTest(one=one, other=other):
                inside = least(other) <= least(one) and greatest(one) <= greatest(other)
                self.assertIs(within(one, other), inside)

    def test_shared(self):
        for one, other in itertools.product(SOME, SOME):
            with self.subTest(one=one, other=other):
                found = shared(one, other)
                alike = [a for a, b in itertools.takewhile(lambda p: p[0] == p[1], zip(signs(one), signs(other)))]
                self.assertIs(type(found), tuple)
                self.assertEqual(found, (int("0" + "".join(alike), 2), len(alike)))
                self.assertEqual(shared(other, one), found)

    def test_shared_at_the_ends(self):
        self.assertEqual(shared((0, 0), (0, 0)), (0, 0))
        self.assertEqual(shared((0, 0), (65535, 16)), (0, 0))
        self.assertEqual(shared((65535, 16), (65535, 16)), (65535, 16))
        self.assertEqual(shared((65534, 16), (65535, 16)), (32767, 15))
        self.assertEqual(shared((0, 16), (65535, 16)), (0, 0))
        self.assertEqual(shared((0, 1), (1, 1)), (0, 0))
        self.assertEqual(shared((0, 1), (32768, 16)), (0, 0))
        self.assertEqual(shared((1, 2), (1, 4)), (0, 1))
        self.assertEqual(shared((5, 3), (11, 4)), (5, 3))

    def test_shared_of_one_within_the_other_is_the_wider(self):
        for one in SOME:
            with self.subTest(one=one):
                self.assertEqual(shared(one, one), one)
                self.assertEqual(shared(one, (0, 0)), (0, 0))
                self.assertEqual(shared((least(one), 16), one), one)


class Order(unittest.TestCase):
    def test_by_least_address_then_by_size(self):
        wanted = [(0, 0), (0, 1), (0, 2), (0, 16), (1, 16), (1, 2), (1, 1), (2, 2), (32768, 16), (3, 2), (65535, 16)]
        self.assertEqual(in_order(list(reversed(wanted))), wanted)
        self.assertEqual(in_order(wanted[1::2] + wanted[::2]), wanted)
        self.assertEqual(in_order(wanted), wanted)

    def test_every_row_of_four(self):
        wanted = [(0, 0), (0, 1), (0, 16), (1, 1)]
        for mixed in itertools.permutations(wanted):
            with self.subTest(mixed=mixed):
                self.assertEqual(in_order(mixed), wanted)
                self.assertEqual(in_order(list(mixed)), wanted)

    def test_the_empty_ones(self):
        self.assertEqual(in_order([]), [])
        self.assertEqual(in_order(()), [])
        self.assertIs(type(in_order(())), list)

    def test_each_as_often_as_handed_in(self):
        found = in_order(((1, 1), (0, 0), (1, 1), (0, 1), (0, 0), (1, 1)))
        self.assertEqual(found, [(0, 0), (0, 0), (0, 1), (1, 1), (1, 1), (1, 1)])

    def test_what_is_handed_in_stays(self):
        handed = [(1, 1), (0, 1), (0, 0)]
        found = in_order(handed)
        self.assertEqual(handed, [(1, 1), (0, 1), (0, 0)])
        found.append((3, 2))
        self.assertEqual(handed, [(1, 1), (0, 1), (0, 0)])

    def test_the_list_is_a_new_one(self):
        handed = [(0, 0), (1, 1)]
        first = in_order(handed)
        second = in_order(handed)
        self.assertIsNot(first, handed)
        self.assertIsNot(first, second)
        first.clear()
        handed.append((0, 1))
        self.assertEqual(second, [(0, 0), (1, 1)])


if __name__ == "__main__":
    unittest.main()
