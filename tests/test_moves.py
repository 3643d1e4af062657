"""Points 25 and 26 and the interface of bellrest/moves.py."""

import itertools
import unittest

from bellrest.errors import Unlike
from bellrest.moves import cut, earlier, inside, later, meet, release, restart, widen
from bellrest.tables import all_zero, anything, keeps, table_with
from helpers import allowed, fraction, grid, keeps_scaled, random_span, random_tables, seeded, shut_oracle

SMALL = random_tables(31, 60, most_clocks=2, low=-2, high=2) + [table_with(1), table_with(2), all_zero(2)]
WIDER = SMALL + random_tables(32, 40, most_clocks=3)
EMPTY = [table for table in WIDER if shut_oracle(table) is None]
FULL = [table for table in WIDER if shut_oracle(table) is not None]
NOT_SHUT = [table for table in FULL if shut_oracle(table) != table]

# Readings in parts of an hour, and rests in half of them: between two readings that differ in
# whole parts there is always half a part, so these rests tell all that any rests tell.
PARTS = 3
HALVES = 2 * PARTS
MOST = 4


def values_over(clocks):
    return itertools.product(range(0, MOST * HALVES, 2), repeat=clocks)


def moved(values, rest):
    return [value + rest for value in values]


class TestMove(unittest.TestCase):
    def check_result(self, found, table, values_in):
        """The result is shut, or None, and holds the readings that the definition says."""
        if found is not None:
            self.assertEqual(shut_oracle(found), found)
        for values in values_over(len(table) - 1):
            kept = found is not None and keeps_scaled(found, values, HALVES)
            self.assertEqual(kept, values_in(values), (table, found, values))

    def test_enough_tables(self):
        self.assertGreater(len(EMPTY), 15)
        self.assertGreater(len(NOT_SHUT), 15)

    def test_later(self):
        for table in SMALL:
            self.check_result(later(table), table, lambda values: any(
                keeps_scaled(table, moved(values, -rest), HALVES) for rest in range(min(values) + 1)))

    def test_earlier(self):
        for table in SMALL:
            self.check_result(earlier(table), table, lambda values: any(
                keeps_scaled(table, moved(values, rest), HALVES) for rest in range(8 * HALVES)))

    def test_restart_one_clock(self):
        for table in SMALL:
            for clock in range(1, len(table)):
                self.check_result(restart(table, (clock,)), table, lambda values: values[clock - 1] == 0 and any(
                    keeps_scaled(table, (*values[:clock - 1], value, *values[clock:]), HALVES)
                    for value in range(8 * HALVES)))

    def test_release_one_clock(self):
        for table in SMALL:
            for clock in range(1, len(table)):
                self.check_result(release(table, (clock,)), table, lambda values: any(
                    keeps_scaled(table, (*values[:clock - 1], value, *values[clock:]), HALVES)
                    for value in range(8 * HALVES)))

    def test_several_clocks_are_like_one_after_the_other(self):
        for table in WIDER:
            for move in (restart, release):
                numbers = range(1, len(table))
                for clocks in itertools.chain(itertools.permutations(numbers, 2), itertools.permutations(numbers, 3)):
                    expected = table
                    for clock in clocks:
                        expected = move(expected, (clock,))
                    self.assertEqual(move(table, clocks), expected)

    def test_clocks_given_twice(self):
        for table in WIDER:
            for move in (restart, release):
                for clock in range(1, len(table)):
                    self.assertEqual(move(table, (clock, clock)), move(table, (clock,)))
                    self.assertEqual(move(table, (clock, 1, clock)), move(table, (1, clock)))

    def test_without_clocks_or_tests(self):
        for table in WIDER:
            expected = shut_oracle(table)
            self.assertEqual(restart(table, ()), expected)
            self.assertEqual(release(table, ()), expected)
            self.assertEqual(cut(table), expected)
            self.assertEqual(meet(table), expected)

    def test_cut(self):
        chance = seeded(33)
        for table in SMALL:
            for count in (1, 2, 3):
                tests = [(chance.randint(1, len(table) - 1), random_span(chance, 3)) for _ in range(count)]
                self.check_result(cut(table, *tests), table, lambda values: keeps_scaled(table, values, HALVES) and all(
                    allowed((-low[0] * HALVES, low[1]), -values[clock - 1])
                    and (high is None or allowed((high[0] * HALVES, high[1]), values[clock - 1]))
                    for clock, (low, high) in tests))

    def test_meet(self):
        for one, other in zip(SMALL, SMALL[1:] + SMALL[:1]):
            if len(one) == len(other):
                self.check_result(meet(one, other), one, lambda values: keeps_scaled(one, values, HALVES)
                                  and keeps_scaled(other, values, HALVES))
                self.assertEqual(meet(one, other), meet(other, one))
                self.assertEqual(meet(one, other, one), meet(other, one))

    def test_meet_of_three(self):
        three = [table for table in FULL if len(table) == 3][:6]
        for tables in itertools.combinations(three, 3):
            self.assertEqual(meet(*tables), meet(meet(tables[0], tables[1]), tables[2]))

    def test_examples(self):
        one = table_with(1, (1, 0, (4, 1)), (0, 1, (-1, 0)))
        self.assertEqual(later(one), (((0, 1), (-1, 0)), (None, (0, 1))))
        self.assertEqual(earlier(one), (((0, 1), (0, 1)), ((4, 1), (0, 1))))
        self.assertEqual(restart(one, (1,)), all_zero(1))
        self.assertEqual(release(one, (1,)), anything(1))
        self.assertEqual(cut(one, (1, ((2, 1), (3, 0)))), (((0, 1), (-2, 1)), ((3, 0), (0, 1))))
        self.assertIsNone(cut(one, (1, ((5, 1), None))))
        self.assertIsNone(meet(one, all_zero(1)))


class TestEmptyLots(unittest.TestCase):
    def test_none(self):
        self.assertIsNone(later(None))
        self.assertIsNone(earlier(None))
        for clocks in ((), (1,), (2, 1, 2)):
            self.assertIsNone(restart(None, clocks))
            self.assertIsNone(release(None, clocks))
        self.assertIsNone(cut(None))
        self.assertIsNone(cut(None, (1, ((0, 1), None))))
        self.assertIsNone(meet(None))
        self.assertIsNone(meet(None, None))
        self.assertIsNone(meet(None, anything(2)))
        self.assertIsNone(meet(anything(2), None))
        self.assertIsNone(widen(None, (1, 2)))

    def test_tables_with_an_empty_lot(self):
        for table in EMPTY:
            clocks = len(table) - 1
            for found in (later(table), earlier(table), restart(table, (1,)), restart(table, ()), release(table, (1,)),
                          release(table, tuple(range(1, clocks + 1))), cut(table), cut(table, (1, ((0, 1), None))),
                          meet(table), meet(table, anything(clocks)), meet(anything(clocks), table),
                          widen(table, (0,) * clocks)):
                self.assertIsNone(found)

    def test_tables_that_are_not_shut(self):
        for table in NOT_SHUT:
            same, numbers = shut_oracle(table), tuple(range(1, len(table)))
            self.assertEqual(later(table), later(same))
            self.assertEqual(earlier(table), earlier(same))
            for clocks in ((1,), numbers):
                self.assertEqual(restart(table, clocks), restart(same, clocks))
                self.assertEqual(release(table, clocks), release(same, clocks))
            self.assertEqual(widen(table, (1,) * len(numbers)), widen(same, (1,) * len(numbers)))


class TestUnlike(unittest.TestCase):
    def test_meet(self):
        one, two, three = anything(1), anything(2), anything(3)
        for tables, expected, given in (
                ((one, two), 1, 2), ((two, one, three), 2, 1), ((two, two, three, one), 2, 3), ((None, two, one), 2, 1),
                ((None, None, three, None, one, two), 3, 1), ((two, None, three), 2, 3),
                ((table_with(2, (1, 1, (-1, 0))), three), 2, 3)):
            with self.assertRaises(Unlike) as caught:
                meet(*tables)
            self.assertEqual((caught.exception.expected, caught.exception.given), (expected, given))
        self.assertIsNone(meet(None, two, None, two))


class TestInside(unittest.TestCase):
    def test_none_and_empty(self):
        for other in (None, anything(1), EMPTY[0]):
            self.assertIs(inside(None, other), True)
        for table in EMPTY:
            for other in (None, table, all_zero(len(table) - 1)):
                self.assertIs(inside(table, other), True)
        for table in FULL:
            self.assertIs(inside(table, None), False)
            self.assertIs(inside(table, table), True)
            self.assertIs(inside(shut_oracle(table), table), True)
            self.assertIs(inside(table, shut_oracle(table)), True)
            self.assertIs(inside(table, anything(len(table) - 1)), True)

    def test_readings(self):
        told = []
        for one, other in itertools.product(SMALL[:40], repeat=2):
            if len(one) == len(other):
                outside = any(keeps_scaled(one, values, HALVES) and not keeps_scaled(other, values, HALVES)
                              for values in itertools.product(range(0, 7 * HALVES, 2), repeat=len(one) - 1))
                self.assertIs(inside(one, other), not outside, (one, other))
                told.append(outside)
        self.assertIn(True, told)
        self.assertIn(False, told)

    def test_a_clock_with_itself(self):
        self.assertIs(inside(anything(1), table_with(1, (1, 1, (0, 0)))), False)
        self.assertIs(inside(anything(1), table_with(1, (1, 1, (0, 1)))), True)
        self.assertIs(inside(anything(1), table_with(1, (0, 1, (0, 1)))), True)
        self.assertIs(inside(anything(1), table_with(1, (0, 1, (0, 0)))), False)


def widened(table, ceilings):
    """Point 26 word for word, on the shut table by trying all ways."""
    held = shut_oracle(table)
    if held is None:
        return None
    top = lambda number: 0 if number == 0 else ceilings[number - 1]
    rows = []
    for i in range(len(held)):
        row = []
        for j in range(len(held)):
            cap = changed = held[i][j]
            if i != j and cap is not None and i >= 1 and cap[0] > top(i):
                changed = None
            if i != j and cap is not None and j >= 1 and cap[0] < -top(j):
                changed = (-top(j), 0)
            row.append(changed)
        rows.append(tuple(row))
    return shut_oracle(tuple(rows))


class TestWiden(unittest.TestCase):
    def test_both_rules(self):
        for table in WIDER:
            for ceilings in itertools.product((0, 1, 3), repeat=len(table) - 1):
                found = widen(table, ceilings)
                self.assertEqual(found, widened(table, ceilings))
                self.assertIs(inside(table, found), True)

    def test_examples(self):
        between = table_with(1, (1, 0, (7, 1)), (0, 1, (-5, 1)))
        self.assertEqual(widen(between, (7,)), (((0, 1), (-5, 1)), ((7, 1), (0, 1))))
        self.assertEqual(widen(between, (6,)), (((0, 1), (-5, 1)), (None, (0, 1))))
        self.assertEqual(widen(between, (5,)), (((0, 1), (-5, 1)), (None, (0, 1))))
        self.assertEqual(widen(between, (4,)), (((0, 1), (-4, 0)), (None, (0, 1))))
        self.assertEqual(widen(all_zero(2), (0, 0)), all_zero(2))

    def test_kept_readings(self):
        for table in FULL:
            found = widen(table, (1,) * (len(table) - 1))
            for readings in grid(len(table) - 1, 2, 2):
                if keeps(table, readings):
                    self.assertTrue(keeps(found, readings))
                # Readings below the ceilings are not added one by one, only together with others.
                if all(fraction(reading) < 1 for reading in readings) and len(table) == 2:
                    self.assertEqual(keeps(found, readings), keeps(table, readings))


if __name__ == "__main__":
    unittest.main()
