"""Point 24 and the interface of bellrest/points.py."""

import itertools
import unittest
from fractions import Fraction

from bellrest.errors import EmptyLot
from bellrest.points import near, point
from bellrest.shutting import shut
from bellrest.tables import all_zero, anything, is_readings, table_with
from helpers import fraction, keeps_oracle, random_tables, shut_oracle

TABLES = random_tables(24, 150) + random_tables(25, 20, most_clocks=4, low=-1, high=5) + [
    anything(1), anything(3), all_zero(2),
    table_with(1, (1, 0, (1, 0)), (0, 1, (0, 0))),
    table_with(3, (1, 0, (1, 0)), (0, 1, (0, 0)), (2, 1, (0, 0)), (0, 2, (0, 0)), (3, 2, (0, 0)), (0, 3, (0, 0))),
    table_with(2, (1, 2, (0, 0)), (2, 1, (1, 0)))]
FULL = [table for table in TABLES if shut_oracle(table) is not None]
EMPTY = [table for table in TABLES if shut_oracle(table) is None]


class TestPoint(unittest.TestCase):
    def test_point_is_in_the_lot(self):
        self.assertGreater(len(FULL), 40)
        for table in FULL:
            found = point(table)
            self.assertTrue(is_readings(len(table) - 1, found))
            self.assertTrue(keeps_oracle(table, found), (table, found))
            self.assertEqual(point(table), found)

    def test_empty_lots(self):
        self.assertGreater(len(EMPTY), 10)
        for table in EMPTY:
            with self.assertRaises(EmptyLot) as caught:
                point(table)
            self.assertEqual(caught.exception.clocks, len(table) - 1)

    def test_a_chain_of_reaches(self):
        count = 20
        table = table_with(count, *[(k, k + 1, (0, 0)) for k in range(count)], (count, 0, (1, 0)))
        self.assertTrue(keeps_oracle(table, point(table)))


class TestNear(unittest.TestCase):
    def check_near(self, table, i, j, within):
        cap = shut(table)[i][j]
        found = near(table, i, j, within)
        self.assertTrue(is_readings(len(table) - 1, found))
        self.assertTrue(keeps_oracle(table, found), (table, i, j, within, found))
        values = [Fraction(0)] + [fraction(reading) for reading in found]
        gap = values[i] - values[j]
        if cap is None:
            self.assertGreaterEqual(gap, fraction(within))
        elif cap[1] == 1:
            self.assertEqual(gap, cap[0])
        else:
            self.assertGreater(gap, cap[0] - fraction(within))
            self.assertLess(gap, cap[0])
        self.assertEqual(near(table, i, j, within), found)
        return "none" if cap is None else cap[1]

    def test_all_caps(self):
        seen = []
        for table in FULL:
            for i, j in itertools.permutations(range(len(table)), 2):
                for within in ((1, 1), (1, 3), (7, 2)):
                    seen.append(self.check_near(table, i, j, within))
        for case in ("none", 0, 1):
            self.assertGreater(seen.count(case), 100)

    def test_very_small_and_large(self):
        table = table_with(2, (1, 0, (3, 0)), (0, 2, (-1, 0)))
        for within in ((1, 10 ** 12), (10 ** 12, 1), (999999999999, 7), (10 ** 20, 3)):
            for i, j in itertools.permutations(range(3), 2):
                self.check_near(table, i, j, within)

    def test_empty_lots(self):
        for table in EMPTY:
            for i, j in itertools.permutations(range(len(table)), 2):
                with self.assertRaises(EmptyLot) as caught:
                    near(table, i, j, (1, 2))
                self.assertEqual(caught.exception.clocks, len(table) - 1)


if __name__ == "__main__":
    unittest.main()
