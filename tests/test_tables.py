import unittest

from posthouse.bits import begins, in_order, within
from posthouse.errors import NoRow
from posthouse.tables import Table

ALL = (0, 0)
ROWS = [
    ((0, 0), 9), ((0, 1), 1), ((0, 16), None), ((1, 16), 0), ((1, 2), 2), ((5, 4), 3), ((1, 1), None),
    ((2, 2), 31), ((65535, 16), 4),
]


def filled(rows):
    table = Table()
    for beginning, thing in rows:
        table.put(beginning, thing)
    return table


class Rows(unittest.TestCase):
    def test_an_empty_table(self):
        table = Table()
        self.assertEqual(table.count(), 0)
        self.assertEqual(table.rows(), [])
        self.assertEqual(table.under(ALL), [])
        self.assertIs(table.has(ALL), False)
        self.assertIsNone(table.get(ALL))
        self.assertIsNone(table.longest(0))

    def test_put(self):
        table = Table()
        self.assertIsNone(table.put((1, 2), 7))
        self.assertIs(table.has((1, 2)), True)
        self.assertEqual(table.get((1, 2)), 7)
        self.assertEqual(table.count(), 1)
        self.assertEqual(table.rows(), [((1, 2), 7)])

    def test_beginnings_of_the_same_bits_are_unlike(self):
        table = filled([((0, 0), 1), ((0, 1), 2), ((0, 16), 3)])
        self.assertEqual(table.count(), 3)
        self.assertEqual([table.get((0, size)) for size in (0, 1, 2, 16)], [1, 2, None, 3])

    def test_put_in_a_rows_place(self):
        table = filled([((1, 2), 7), ((0, 1), 5)])
        self.assertIsNone(table.put((1, 2), 8))
        self.assertEqual(table.rows(), [((0, 1), 5), ((1, 2), 8)])
        table.put((1, 2), None)
        self.assertEqual(table.rows(), [((0, 1), 5), ((1, 2), None)])
        self.assertEqual(table.count(), 2)

    def test_cut(self):
        table = filled([((1, 2), 7), ((0, 1), None)])
        self.assertIsNone(table.cut((1, 2)))
        self.assertIs(table.has((1, 2)), False)
        self.assertEqual(table.rows(), [((0, 1), None)])
        self.assertIsNone(table.cut((0, 1)))
        self.assertEqual(table.count(), 0)
        table.put((1, 2), 3)
        self.assertEqual(table.rows(), [((1, 2), 3)])

    def test_cut_without_a_row(self):
        table = filled(ROWS)
        for beginning in ((1, 3), (0, 2), (65534, 16)):
            with self.subTest(beginning=beginning):
                with self.assertRaises(NoRow):
                    table.cut(beginning)
                self.assertEqual(table.rows(), ROWS)
                self.assertEqual(table.count(), len(ROWS))
        with self.assertRaises(NoRow):
            Table().cut(ALL)

    def test_cut_twice(self):
        table = filled([((1, 2), None)])
        table.cut((1, 2))
        with self.assertRaises(NoRow):
            table.cut((1, 2))
        self.assertEqual(table.count(), 0)

    def test_get(self):
        table = filled([((1, 2), 7), ((0, 1), None), (ALL, 0)])
        self.assertEqual(table.get((1, 2)), 7)
        self.assertEqual(table.get((1, 2), 5), 7)
        self.assertEqual(table.get(ALL, 5), 0)
        self.assertIsNone(table.get((0, 1)))
        self.assertIsNone(table.get((0, 1), 5))
        self.assertIsNone(table.get((1, 1)))
        self.assertEqual(table.get((1, 1), 5), 5)
        self.assertIsNone(table.get((1, 1), None))
        self.assertEqual(table.get((1, 1), other=6), 6)
        self.assertIs(table.has((1, 1)), False)

    def test_has_where_none_stands(self):
        table = filled([((0, 1), None)])
        self.assertIs(table.has((0, 1)), True)
        self.assertIs(table.has(ALL), False)
        self.assertEqual(table.count(), 1)

    def test_two_tables_do_not_know_of_each_other(self):
        one = Table()
        other = Table()
        one.put((0, 1), 1)
        self.assertEqual(other.count(), 0)
        other.put((0, 1), 2)
        other.put((1, 1), 3)
        self.assertEqual(one.rows(), [((0, 1), 1)])
        one.cut((0, 1))
        self.assertEqual(other.rows(), [((0, 1), 2), ((1, 1), 3)])
        self.assertEqual(Table().rows(), [])


class Longest(unittest.TestCase):
    def test_without_most(self):
        table = filled(ROWS)
        self.assertEqual(table.longest(0), ((0, 16), None))
        self.assertEqual(table.longest(1), ((1, 16), 0))
        self.assertEqual(table.longest(2), ((0, 1), 1))
        self.assertEqual(table.longest(16384), ((1, 2), 2))
        self.assertEqual(table.longest(20480), ((5, 4), 3))
        self.assertEqual(table.longest(24575), ((5, 4), 3))
        self.assertEqual(table.longest(24576), ((1, 2), 2))
        self.assertEqual(table.longest(32768), ((2, 2), 31))
        self.assertEqual(table.longest(65534), ((1, 1), None))
        self.assertEqual(table.longest(65535), ((65535, 16), 4))
        self.assertIs(type(table.longest(0)), tuple)

    def test_most_from_below_nought_to_beyond_sixteen(self):
        table = filled(ROWS)
        tops = list(range(-3, 20)) + [-(10 ** 30), 10 ** 30]
        for address in (0, 1, 2, 16384, 20480, 24576, 32768, 65534, 65535):
            for most in tops:
                with self.subTest(address=address, most=most):
                    fit = [row for row in ROWS if begins(row[0], address) and row[0][1] <= most]
                    wanted = max(fit, key=lambda row: row[0][1]) if fit else None
                    self.assertEqual(table.longest(address, most), wanted)

    def test_most_at_each_step(self):
        table = filled(ROWS)
        self.assertIsNone(table.longest(20480, -1))
        self.assertEqual(table.longest(20480, 0), ((0, 0), 9))
        self.assertEqual(table.longest(20480, 1), ((0, 1), 1))
        self.assertEqual(table.longest(20480, 3), ((1, 2), 2))
        self.assertEqual(table.longest(20480, most=4), ((5, 4), 3))
        self.assertEqual(table.longest(20480, 17), ((5, 4), 3))
        self.assertEqual(table.longest(1, 15), ((0, 1), 1))
        self.assertEqual(table.longest(1, 16), ((1, 16), 0))
        self.assertEqual(table.longest(1, 17), ((1, 16), 0))

    def test_the_row_of_all(self):
        table = filled([(ALL, None)])
        for address in (0, 1, 32768, 65535):
            self.assertEqual(table.longest(address), (ALL, None))
            self.assertEqual(table.longest(address, 0), (ALL, None))
            self.assertIsNone(table.longest(address, -1))

    def test_no_row_that_fits(self):
        table = filled([((1, 1), 1), ((1, 16), 2), ((1, 2), 3)])
        self.assertIsNone(table.longest(0))
        self.assertIsNone(table.longest(2, 16))
        self.assertIsNone(table.longest(1, 15))
        self.assertIsNone(table.longest(65535, 0))


class Lists(unittest.TestCase):
    def test_rows_in_order(self):
        for mixed in (ROWS, ROWS[::-1], ROWS[1::2] + ROWS[::2]):
            self.assertEqual(filled(mixed).rows(), ROWS)

    def test_order_is_that_of_beginnings(self):
        mixed = [((number * 7 % (1 << size), size), number) for size in range(17) for number in range(min(1 << size, 9))]
        found = filled(mixed).rows()
        self.assertEqual([row[0] for row in found], in_order([row[0] for row in mixed]))
        self.assertEqual(dict(found), dict(mixed))

    def test_order_stays_when_a_row_is_put_again(self):
        table = filled(ROWS)
        table.cut((0, 1))
        table.put((0, 1), 1)
        table.put((0, 0), 9)
        self.assertEqual(table.rows(), ROWS)

    def test_under(self):
        for mixed in (ROWS, ROWS[::-1]):
            table = filled(mixed)
            for beginning in [row[0] for row in ROWS] + [(0, 2), (0, 15), (3, 2), (10, 5), (11, 5), (1, 15), (2, 16)]:
                with self.subTest(beginning=beginning):
                    wanted = [row for row in ROWS if within(row[0], beginning)]
                    self.assertEqual(table.under(beginning), wanted)

    def test_under_with_and_without_a_row(self):
        table = filled(ROWS)
        self.assertEqual(table.under(ALL), ROWS)
        self.assertEqual(table.under((1, 2)), [((1, 2), 2), ((5, 4), 3)])
        self.assertEqual(table.under((0, 15)), [((0, 16), None), ((1, 16), 0)])
        self.assertEqual(table.under((3, 2)), [((65535, 16), 4)])
        self.assertEqual(table.under((65535, 16)), [((65535, 16), 4)])
        self.assertEqual(table.under((3, 3)), [])
        table.cut(ALL)
        self.assertEqual(table.under(ALL), ROWS[1:])

    def test_rows_are_tuples(self):
        for row in filled(ROWS).rows() + filled(ROWS).under((0, 1)):
            self.assertIs(type(row), tuple)

    def test_lists_told_are_the_askers_own(self):
        table = filled(ROWS)
        for told in (table.rows(), table.under(ALL), table.under((0, 1))):
            told.append(((3, 3), 3))
            told[0] = ((0, 0), 77)
            told.reverse()
            self.assertEqual(table.rows(), ROWS)
            self.assertEqual(table.under(ALL), ROWS)
            self.assertEqual(table.count(), len(ROWS))
        self.assertIsNot(table.rows(), table.rows())
        self.assertIsNot(table.under(ALL), table.under(ALL))

    def test_what_the_table_does_later_changes_no_list(self):
        table = filled(ROWS)
        rows = table.rows()
        under = table.under((0, 1))
        inside = list(under)
        table.put((0, 1), 30)
        table.put((0, 3), 30)
        table.cut((1, 16))
        self.assertEqual(rows, ROWS)
        self.assertEqual(under, inside)

    def test_asking_changes_nothing(self):
        table = filled(ROWS)
        table.get((3, 3), 5)
        table.has((3, 3))
        table.longest(3, 2)
        table.longest(65534, -1)
        table.under((3, 3))
        self.assertEqual(table.rows(), ROWS)
        self.assertEqual(table.count(), len(ROWS))


if __name__ == "__main__":
    unittest.main()
