"""Points 22 and 23 and the interface of bellrest/shutting.py."""

import itertools
import unittest

from bellrest.errors import EmptyLot, InvalidTable
from bellrest.shutting import is_ring, is_shut, is_way, ring, shut, way
from bellrest.tables import all_zero, anything, table_with
from helpers import (ODD_VALUES, check_judge, grid, keeps_oracle, near_values, random_tables, shut_oracle, sum_oracle,
                     table_oracle)

# Empty only because of a reach: below 2 and from 2 on, less than itself, around through two clocks.
EMPTY_BY_REACH = (
    table_with(1, (1, 0, (2, 0)), (0, 1, (-2, 1))),
    table_with(1, (1, 1, (0, 0))),
    table_with(1, (0, 0, (0, 0))),
    table_with(1, (1, 0, (0, 0))),
    table_with(2, (1, 2, (1, 1)), (2, 1, (-1, 0))),
    table_with(2, (1, 2, (1, 1)), (2, 0, (2, 0)), (0, 1, (-3, 1))),
)
ONE_READINGS_ONLY = (
    (table_with(1, (1, 0, (2, 1)), (0, 1, (-2, 1))), ((2, 1),)),
    (table_with(1, (1, 0, (0, 1))), ((0, 1),)),
    (table_with(2, (1, 2, (1, 1)), (2, 1, (-1, 1)), (2, 0, (3, 1)), (0, 1, (-4, 1))), ((4, 1), (3, 1))),
    (all_zero(3), ((0, 1), (0, 1), (0, 1))),
)
TABLES = (
    list(EMPTY_BY_REACH) + [table for table, _ in ONE_READINGS_ONLY] + [anything(2), table_with(3), table_with(1)]
    + [((None, (5, 1)), (None, None)), ((None, (-1, 0)), ((4, 1), None)), ((None, (5, 1)), (None, (7, 1)))]
    + random_tables(22, 400) + random_tables(23, 60, most_clocks=4, low=-1, high=6))


def is_ring_oracle(table):
    def oracle(value):
        if not is_numbers_oracle(table, value) or len(value) < 2 or value[0] != value[-1]:
            return False
        total = sum_oracle(table, value)
        return total is not None and (total[0] < 0 or total == (0, 0))
    return oracle


def is_way_oracle(table, i, j, cap):
    def oracle(value):
        if cap is None or not is_numbers_oracle(table, value) or len(value) < 1:
            return False
        return value[0] == i and value[-1] == j and sum_oracle(table, value) == cap
    return oracle


def is_numbers_oracle(table, value):
    return type(value) is tuple and all(type(number) is int and 0 <= number < len(table) for number in value)


class TestShut(unittest.TestCase):
    def test_against_all_ways(self):
        empty = 0
        for table in TABLES:
            found = shut(table)
            self.assertEqual(found, shut_oracle(table), table)
            empty += found is None
        self.assertGreater(empty, 50)
        self.assertGreater(len(TABLES) - empty, 50)

    def test_the_lot_stays(self):
        for table in TABLES:
            if len(table) <= 3:
                found = shut(table)
                for readings in grid(len(table) - 1, len(table), 4):
                    kept = found is not None and keeps_oracle(found, readings)
                    self.assertEqual(kept, keeps_oracle(table, readings))

    def test_empty_lots(self):
        for table in EMPTY_BY_REACH:
            self.assertIsNone(shut(table))
        self.assertIsNone(shut(table_with(1, (1, 0, (-1, 1)))))
        self.assertIsNone(shut(table_with(2, (1, 2, (-3, 1)), (2, 0, (2, 1)), (0, 1, (0, 1)), (0, 2, (-2, 0)))))

    def test_one_readings_only(self):
        for table, readings in ONE_READINGS_ONLY:
            found = shut(table)
            values = [0] + [numerator for numerator, _ in readings]
            self.assertEqual(found, tuple(tuple((a - b, 1) for b in values) for a in values))

    def test_without_limits(self):
        for clocks in (1, 2, 3, 6):
            self.assertEqual(shut(table_with(clocks)), anything(clocks))
            self.assertEqual(shut(anything(clocks)), anything(clocks))

    def test_effective_caps(self):
        # No reading is negative, and a clock equals itself.
        self.assertEqual(shut(((None, (5, 1)), ((4, 1), None))), (((0, 1), (0, 1)), ((4, 1), (0, 1))))
        self.assertEqual(shut((((9, 0), None), (None, (9, 0)))), anything(1))
        self.assertIsNone(shut(((None, None), (None, (-1, 1)))))
        # The shut cap [0][j] is tighter than (0, 1) if the readings say so.
        self.assertEqual(shut(table_with(2, (1, 2, (-2, 0))))[0], ((0, 1), (0, 1), (-2, 0)))

    def test_large_limits(self):
        table = table_with(2, (1, 0, (10 ** 30, 1)), (2, 1, (10 ** 30, 0)), (0, 1, (-10 ** 30 + 1, 1)))
        self.assertEqual(shut(table)[2], ((2 * 10 ** 30, 0), (10 ** 30, 0), (0, 1)))

    def test_what_is_no_table(self):
        table = ((None, (-1, 0)), ((4, 1), None))
        for value in [*ODD_VALUES, *near_values(table)]:
            if not table_oracle(value):
                with self.assertRaises(InvalidTable) as caught:
                    shut(value)
                self.assertIs(caught.exception.value, value)

    def test_many_clocks(self):
        table = table_with(41, *[(k, k + 1, (0, 1)) for k in range(41)], (41, 0, (5, 1)), (0, 20, (-2, 0)))
        found = shut(table)
        self.assertEqual(found[41][0], (5, 1))
        self.assertEqual(found[41][30], (3, 0))
        self.assertEqual(found[0][41], (-2, 0))


class TestIsShut(unittest.TestCase):
    def test_judge(self):
        tables = [shut(table) for table in TABLES if shut(table) is not None and len(table) <= 3]
        check_judge(self, is_shut, tables[:40], lambda value: table_oracle(value) and shut_oracle(value) == value)

    def test_not_shut(self):
        for table in EMPTY_BY_REACH:
            self.assertIs(is_shut(table), False)
        self.assertIs(is_shut(((None, (-1, 0)), ((4, 1), None))), False)
        self.assertIs(is_shut((((0, 1), (-1, 0)), ((4, 1), (0, 1)))), True)
        self.assertIs(is_shut((((0, True), (-1, 0)), ((4, 1), (0, 1)))), False)
        self.assertIs(is_shut([((0, 1), (-1, 0)), ((4, 1), (0, 1))]), False)
        self.assertIs(is_shut(None), False)


class TestRings(unittest.TestCase):
    def test_some_ring(self):
        for table in TABLES:
            found = ring(table)
            if shut_oracle(table) is not None:
                self.assertIsNone(found)
                continue
            self.assertTrue(is_ring_oracle(table)(found), (table, found))
            self.assertEqual(len(set(found)), len(found) - 1)
            self.assertEqual(ring(table), found)

    def test_ring_of_one_clock(self):
        self.assertEqual(ring(table_with(2, (2, 2, (0, 0)))), (2, 2))
        self.assertEqual(ring(table_with(1, (0, 0, (-5, 1)))), (0, 0))

    def test_long_ring(self):
        count = 9
        table = table_with(count, *[(k, k % count + 1, (0, 1)) for k in range(1, count)], (count, 1, (0, 0)))
        found = ring(table)
        self.assertEqual(len(found), count + 1)
        self.assertTrue(is_ring(table, found))

    def test_ring_below_a_tighter_one(self):
        # A ring through 3 alone must not hide behind the tighter ring through 1 and 2.
        table = table_with(3, (1, 2, (-5, 1)), (2, 1, (-5, 1)), (3, 1, (1, 1)), (1, 3, (1, 1)))
        found = ring(table)
        self.assertTrue(is_ring_oracle(table)(found))
        self.assertEqual(len(set(found)), len(found) - 1)

    def test_judge(self):
        for table in TABLES[:40]:
            oracle = is_ring_oracle(table)
            found = ring(table)
            if found is not None:
                check_judge(self, lambda value: is_ring(table, value), [found, found[:-1] + found], oracle)
            for value in itertools.product(range(len(table) + 1), repeat=3):
                self.assertIs(is_ring(table, value), bool(oracle(value)))
            for value in [*ODD_VALUES, (0,), (0, 0), (False, False), (0, -1, 0)]:
                self.assertIs(is_ring(table, value), bool(oracle(value)))


class TestWays(unittest.TestCase):
    def test_some_way(self):
        for table in TABLES:
            held = shut_oracle(table)
            if held is None:
                continue
            for i, j in itertools.product(range(len(table)), repeat=2):
                found = way(table, i, j)
                if held[i][j] is None:
                    self.assertIsNone(found)
                    continue
                self.assertTrue(is_way_oracle(table, i, j, held[i][j])(found), (table, i, j, found))
                self.assertEqual(len(set(found)), len(found))
                self.assertEqual(way(table, i, j), found)
                if i == j:
                    self.assertEqual(found, (i,))

    def test_empty_lots(self):
        for table in EMPTY_BY_REACH:
            for i, j in itertools.product(range(len(table)), repeat=2):
                with self.assertRaises(EmptyLot) as caught:
                    way(table, i, j)
                self.assertEqual(caught.exception.clocks, len(table) - 1)

    def test_ways_through_zero_sums(self):
        # Going around a ring with the sum (0, 1) must not be part of a way.
        table = table_with(4, (1, 2, (0, 1)), (2, 1, (0, 1)), (2, 3, (1, 1)), (3, 2, (-1, 1)), (1, 4, (3, 1)), (4, 3, (9, 1)))
        for i, j in itertools.product(range(5), repeat=2):
            found = way(table, i, j)
            if found is not None:
                self.assertEqual(len(set(found)), len(found))

    def test_judge(self):
        caps = [None, (0, 1), (0, 0), (1, 1), (4, 0), (-1, 0)]
        for table in TABLES[:25]:
            held = shut_oracle(table)
            for i, j in itertools.product(range(len(table)), repeat=2):
                for cap in caps + ([held[i][j]] if held else []):
                    oracle = is_way_oracle(table, i, j, cap)
                    for count in (0, 1, 2, 3):
                        for value in itertools.product(range(len(table)), repeat=count):
                            self.assertIs(is_way(table, i, j, cap, value), bool(oracle(value)))
                    for value in (*ODD_VALUES, (i, True), [i, j], (i, -1, j), (i, len(table), j)):
                        self.assertIs(is_way(table, i, j, cap, value), bool(oracle(value)))

    def test_judge_near_ways(self):
        table = table_with(2, (1, 2, (1, 1)), (2, 0, (3, 0)))
        check_judge(self, lambda value: is_way(table, 1, 0, (4, 0), value), [(1, 2, 0)],
                    is_way_oracle(table, 1, 0, (4, 0)))
        self.assertIs(is_way(table, 1, 0, None, (1, 2, 0)), False)
        self.assertIs(is_way(table, 1, 0, (4, 0), (1, 1, 2, 2, 0, 0)), True)
        self.assertIs(is_way(table, 1, 1, (0, 1), (1,)), True)
        self.assertIs(is_way(table, 1, 1, (0, 1), (True,)), False)


if __name__ == "__main__":
    unittest.main()
