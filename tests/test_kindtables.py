"""Point 44: kinds and tables."""

import inspect
import itertools
import unittest

from bellrest.kinds import is_kind
from bellrest.kindtables import count_kinds, each_kind, kind_table, kinds_of
from bellrest.moves import cut, later
from bellrest.points import near
from bellrest.tables import all_zero, anything, table_with
from helpers import (
    all_kinds, grid, keeps_oracle, kind_oracle, random_tables, sample_readings, shut_oracle)

CEILINGS = ((0,), (1,), (3,), (0, 0), (1, 2), (2, 0), (1, 0, 2), (1, 1, 1))


class TestKindTables(unittest.TestCase):
    def test_the_lot_is_the_kind(self):
        for ceilings in CEILINGS:
            samples = list(sample_readings(ceilings))
            if len(ceilings) == 3:
                samples = samples[::5]
            for kind in all_kinds(ceilings):
                table = kind_table(kind, ceilings)
                self.assertEqual(table, shut_oracle(table))
                for readings in samples:
                    self.assertEqual(keeps_oracle(table, readings), kind_oracle(readings, ceilings) == kind)

    def test_the_caps_are_tight(self):
        for ceilings in ((1,), (2, 1), (1, 0, 1)):
            numbers = range(len(ceilings) + 1)
            for kind in all_kinds(ceilings):
                table = kind_table(kind, ceilings)
                for i, j in itertools.permutations(numbers, 2):
                    readings = near(table, i, j, (1, 7))
                    self.assertEqual(kind_oracle(readings, ceilings), kind)

    def test_examples(self):
        self.assertEqual(kind_table(((2,), ((),)), (1,)), (((0, 1), (-1, 0)), (None, (0, 1))))
        self.assertEqual(kind_table(((1,), ((1,),)), (1,)), (((0, 1), (-1, 1)), ((1, 1), (0, 1))))
        self.assertEqual(kind_table(((0, 0), ((), (1,), (2,))), (1, 1)),
                         (((0, 1), (0, 0), (0, 0)), ((1, 0), (0, 1), (0, 0)), ((1, 0), (1, 0), (0, 1))))


class TestKindsOf(unittest.TestCase):
    def test_random_tables(self):
        for table in random_tables(44, 150, 2, -4, 4) + random_tables(45, 40, 3, -2, 2):
            ceilings = (1, 2, 0)[:len(table) - 1]
            expected = [kind for kind in all_kinds(ceilings) if shut_oracle(met_caps(table, kind, ceilings)) is not None]
            self.assertEqual(kinds_of(table, ceilings), tuple(expected))

    def test_kinds_on_a_grid(self):
        for table in random_tables(46, 60, 2, -2, 3):
            ceilings = (2, 1)[:len(table) - 1]
            found = kinds_of(table, ceilings)
            for readings in grid(len(ceilings), 3, 4):
                if keeps_oracle(table, readings):
                    self.assertIn(kind_oracle(readings, ceilings), found)

    def test_none_and_empty(self):
        self.assertEqual(kinds_of(None, (1, 1)), ())
        self.assertEqual(kinds_of(table_with(1, (1, 0, (-1, 1))), (3,)), ())

    def test_edges(self):
        for ceilings in CEILINGS:
            clocks = len(ceilings)
            self.assertEqual(kinds_of(anything(clocks), ceilings), tuple(all_kinds(ceilings)))
            self.assertEqual(kinds_of(all_zero(clocks), ceilings), (kind_oracle(((0, 1),) * clocks, ceilings),))
        self.assertEqual(kinds_of(cut(anything(1), (1, ((9, 1), (9, 1)))), (2,)), (((3,), ((),)),))
        self.assertEqual(kinds_of(cut(later(all_zero(2)), (1, ((0, 1), (1, 0)))), (1, 1)),
                         (((0, 0), ((), (1, 2))), ((0, 0), ((1, 2),))))
        self.assertEqual(kinds_of(cut(anything(1), (1, ((1, 0), (2, 1)))), (2,)), (((1,), ((), (1,))), ((2,), ((1,),))))

    def test_tables_that_are_not_shut(self):
        self.assertEqual(kinds_of(((None, None), ((0, 1), None)), (1,)), (((0,), ((1,),)),))


def met_caps(table, kind, ceilings):
    """The tighter caps of the table and of what point 40 says of the kind."""
    wholes, order = kind
    rows = [list(row) for row in table]

    def cap(i, j, edge):
        rows[i][j] = edge if rows[i][j] is None else min(rows[i][j], edge)

    places = {clock: place for place, group in enumerate(order) for clock in group}
    for clock, whole in enumerate(wholes, 1):
        if clock not in places:
            cap(0, clock, (-ceilings[clock - 1], 0))
        else:
            inexact = places[clock] > 0
            cap(clock, 0, (whole + inexact, 1 - inexact))
            cap(0, clock, (-whole, 1 - inexact))
    for one, other in itertools.permutations(places, 2):
        if places[one] <= places[other]:
            cap(one, other, (wholes[one - 1] - wholes[other - 1], int(places[one] == places[other])))
    return tuple(map(tuple, rows))


class TestEachKind(unittest.TestCase):
    def test_ascending_and_complete(self):
        for ceilings in CEILINGS:
            self.assertEqual(list(each_kind(ceilings)), all_kinds(ceilings))
            self.assertEqual(count_kinds(ceilings), len(all_kinds(ceilings)))

    def test_more_clocks(self):
        for ceilings in ((1, 1, 1, 1), (2, 0, 1, 0), (1, 1, 1, 0, 1)):
            found = list(each_kind(ceilings))
            self.assertEqual(found, sorted(set(found)))
            self.assertEqual(len(found), count_kinds(ceilings))
            self.assertTrue(all(is_kind(ceilings, kind) for kind in found))

    def test_is_a_generator(self):
        self.assertTrue(inspect.isgeneratorfunction(each_kind))
        many = (9, 9, 9, 9, 9, 9)
        kinds = each_kind(many)
        self.assertEqual(next(kinds), ((0,) * 6, ((), (1,), (2,), (3,), (4,), (5,), (6,))))
        first = list(itertools.islice(kinds, 20000))
        self.assertEqual(first, sorted(first))

    def test_counts(self):
        self.assertEqual(count_kinds((0,)), 2)
        self.assertEqual(count_kinds((99,)), 200)
        self.assertEqual(count_kinds((1, 2)), 28)
        # One clock: 2 c + 2 kinds. For six clocks all six may have different parts.
        self.assertEqual(count_kinds((1, 1, 1, 1, 1, 1)) % 2, 0)
        self.assertGreater(count_kinds((99,) * 6), 99 ** 6 * 9366)


if __name__ == "__main__":
    unittest.main()
