"""Points 20 and 21 and the interface of bellrest/tables.py."""

import itertools
import unittest
from fractions import Fraction

from bellrest.errors import InvalidTable, Unlike
from bellrest.tables import (add_caps, all_zero, anything, cap_allows, is_cap, is_readings, is_table, keeps, least_cap,
                             table_with)
from helpers import (ODD_VALUES, allowed, as_moment, check_judge, edge_oracle, fraction, grid, keeps_oracle,
                     moment_oracle, random_tables, shut_oracle, table_oracle)

CAPS = [None] + [(limit, reach) for limit in range(-2, 3) for reach in (0, 1)]
DIFFERENCES = [Fraction(number, 2) for number in range(-10, 11)]


def cap_oracle(value):
    return value is None or edge_oracle(value)


def allowed_differences(cap):
    return [difference for difference in DIFFERENCES if allowed(cap, difference)]


class TestJudges(unittest.TestCase):
    def test_caps(self):
        check_judge(self, is_cap, CAPS, cap_oracle)
        for value in ((0, 2), (True, 0), (0, False), [0, 1], (0,), (0, 1, 0), (), "None", 0, False):
            self.assertIs(is_cap(value), False, value)

    def test_tables(self):
        tables = [((None, None), (None, None)), ((None, (-1, 0)), ((4, 1), None)), anything(2), all_zero(3)]
        check_judge(self, is_table, tables, table_oracle)
        for value in ((), (()), ((),), ((None,),), (((0, 1),),), ((None, None),), ((None, None), (None,)),
                      ((None, None), [None, None]), [(None, None), (None, None)], ((None, None), (None, (True, 1))),
                      ((None, None), (None, None), (None, None)), ((None, 0), (None, None)), None, "table"):
            self.assertIs(is_table(value), False, value)

    def test_readings(self):
        def oracle(clocks):
            return lambda value: type(value) is tuple and len(value) == clocks and all(map(moment_oracle, value))

        for clocks, values in ((1, [((0, 1),), ((7, 2),)]), (2, [((0, 1), (1, 3))]), (3, [((1, 1), (0, 1), (99, 2))])):
            check_judge(self, lambda value: is_readings(clocks, value), values, oracle(clocks))
            for value in ODD_VALUES:
                self.assertIs(is_readings(clocks, value), oracle(clocks)(value))
        self.assertIs(is_readings(2, ((1, 2), (2, 2))), False)
        self.assertIs(is_readings(1, ((1, 2), (1, 2))), False)
        self.assertIs(is_readings(1, [(1, 2)]), False)


class TestCaps(unittest.TestCase):
    def test_sums(self):
        self.assertEqual(add_caps((1, 1), (2, 1)), (3, 1))
        self.assertEqual(add_caps((1, 1), (-4, 0)), (-3, 0))
        self.assertEqual(add_caps((1, 0), (2, 0)), (3, 0))
        for one in CAPS:
            self.assertIsNone(add_caps(one, None))
            self.assertIsNone(add_caps(None, one))
            for other in CAPS:
                self.assertEqual(add_caps(one, other), add_caps(other, one))
                if one and other:
                    self.assertEqual(add_caps(one, other), (one[0] + other[0], min(one[1], other[1])))

    def test_tightest(self):
        self.assertIsNone(least_cap())
        self.assertIsNone(least_cap(None))
        self.assertIsNone(least_cap(None, None))
        self.assertEqual(least_cap((1, 1), None, (1, 0)), (1, 0))
        self.assertEqual(least_cap((1, 0), (0, 1)), (0, 1))
        for count in (1, 2, 3):
            for caps in itertools.product(CAPS[::2] if count == 3 else CAPS, repeat=count):
                least = least_cap(*caps)
                self.assertIn(least, caps)
                self.assertEqual(allowed_differences(least),
                                 [gap for gap in DIFFERENCES if all(allowed(cap, gap) for cap in caps)])

    def test_allows(self):
        moments = [as_moment(Fraction(number, parts)) for number in range(7) for parts in (1, 2, 3)]
        for cap in CAPS:
            for one in moments:
                for other in moments:
                    self.assertIs(cap_allows(cap, one, other), allowed(cap, fraction(one) - fraction(other)))
        self.assertIs(cap_allows((-1, 1), (0, 1), (1, 1)), True)
        self.assertIs(cap_allows((-1, 0), (0, 1), (1, 1)), False)
        self.assertIs(cap_allows((0, 0), (10 ** 30 - 1, 10 ** 30), (1, 1)), True)


class TestTables(unittest.TestCase):
    def test_keeps(self):
        for table in random_tables(21, 60):
            for readings in grid(len(table) - 1, 2, 3):
                self.assertIs(keeps(table, readings), keeps_oracle(table, readings), (table, readings))

    def test_keeps_asks_caps_of_a_clock_with_itself(self):
        table = ((None, None), (None, (0, 0)))
        self.assertIs(keeps(table, ((1, 1),)), False)
        self.assertIs(keeps((((0, 0), None), (None, None)), ((1, 1),)), False)
        self.assertIs(keeps((((5, 0), None), (None, (0, 1))), ((1, 1),)), True)

    def test_unlike_readings(self):
        for clocks in (1, 2, 3):
            for given in (0, 1, 2, 3, 4):
                readings = ((1, 1),) * given
                if given == clocks:
                    self.assertIs(keeps(anything(clocks), readings), True)
                else:
                    with self.assertRaises(Unlike) as caught:
                        keeps(anything(clocks), readings)
                    self.assertEqual((caught.exception.expected, caught.exception.given), (clocks, given))

    def test_anything(self):
        self.assertEqual(anything(1), (((0, 1), (0, 1)), (None, (0, 1))))
        for clocks in (1, 2, 3):
            table = anything(clocks)
            self.assertEqual(table, shut_oracle(table))
            for readings in grid(clocks, 1, 3):
                self.assertTrue(keeps(table, readings))

    def test_all_zero(self):
        self.assertEqual(all_zero(1), (((0, 1), (0, 1)), ((0, 1), (0, 1))))
        for clocks in (1, 2, 3):
            table = all_zero(clocks)
            self.assertEqual(table, shut_oracle(table))
            kept = [readings for readings in grid(clocks, 2, 1) if keeps(table, readings)]
            self.assertEqual(kept, [((0, 1),) * clocks])


class TestTableWith(unittest.TestCase):
    def test_without_conditions(self):
        for clocks in (1, 2, 6):
            self.assertEqual(table_with(clocks), ((None,) * (clocks + 1),) * (clocks + 1))

    def test_the_tightest_condition_counts(self):
        conditions = [(1, 0, (4, 1)), (0, 1, (-1, 0)), (1, 0, None), (1, 0, (4, 0)), (1, 0, (7, 0)), (2, 2, (3, 1))]
        table = (((None), (-1, 0), None), ((4, 0), None, None), (None, None, (3, 1)))
        for order in itertools.permutations(conditions):
            self.assertEqual(table_with(2, *order), table)
        self.assertTrue(is_table(table))

    def test_it_is_not_shut(self):
        self.assertEqual(table_with(1, (0, 0, (5, 1)), (1, 1, (-1, 1))), (((5, 1), None), (None, (-1, 1))))

    def test_wrong_conditions(self):
        good = (1, 0, (4, 1))
        wrong = [(3, 0, (4, 1)), (0, 3, None), (-1, 0, (4, 1)), (0, -1, (4, 1)), (True, 0, (4, 1)), (0, False, (4, 1)),
                 (1, 0), (1, 0, (4, 1), 1), (1, 0, (4, 2)), (1, 0, (4, True)), (1, 0, [4, 1]), [1, 0, (4, 1)], (1, 0, 4),
                 ("1", 0, (4, 1)), (None, 0, (4, 1)), (1, (0,), (4, 1)), *ODD_VALUES]
        for condition in wrong:
            for conditions in ((condition,), (good, condition), (good, condition, "later", good)):
                with self.assertRaises(InvalidTable) as caught:
                    table_with(2, *conditions)
                self.assertIs(caught.exception.value, condition)


if __name__ == "__main__":
    unittest.main()
