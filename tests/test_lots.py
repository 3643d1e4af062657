"""Point 27 and the interface of bellrest/lots.py."""

import itertools
import unittest

from bellrest.errors import Unlike
from bellrest.lots import Lot
from bellrest.moves import earlier, later, release, restart
from bellrest.tables import all_zero, anything, is_readings, keeps, table_with
from helpers import grid, keeps_oracle, random_table, seeded, shut_oracle

CHANCE = seeded(41)
GRIDS = {1: grid(1, 2, 5), 2: grid(2, 3, 4), 3: grid(3, 2, 2)}


def random_lot(clocks):
    """A Lot, and the tables that it was made of."""
    tables = [random_table(CHANCE, clocks, filled=1) for _ in range(CHANCE.randint(0, 4))]
    return Lot(clocks, *tables), tables


LOTS = [random_lot(clocks) for clocks in (1, 1, 1, 1, 1, 2, 2, 2, 2, 2, 2, 3, 3) for _ in range(2)]
PAIRS = [(one, other) for one in LOTS for other in LOTS if one[0].clocks == other[0].clocks]


def members(lot):
    return [readings for readings in GRIDS[lot.clocks] if readings in lot]


class TestLots(unittest.TestCase):
    def check_parts(self, lot):
        tables = lot.tables()
        self.assertIs(type(tables), tuple)
        self.assertEqual(len(set(tables)), len(tables))
        for table in tables:
            self.assertEqual(shut_oracle(table), table)
        self.assertIs(lot.is_empty(), tables == ())
        example = lot.example()
        if tables == ():
            self.assertIsNone(example)
        else:
            self.assertTrue(is_readings(lot.clocks, example))
            self.assertIs(example in lot, True)
        for readings in GRIDS[lot.clocks]:
            self.assertIs(readings in lot, any(keeps_oracle(table, readings) for table in tables))

    def test_union_of_tables(self):
        for lot, tables in LOTS:
            self.check_parts(lot)
            for readings in GRIDS[lot.clocks]:
                self.assertIs(readings in lot, any(keeps_oracle(table, readings) for table in tables))

    def test_operators(self):
        for (one, _), (other, _) in PAIRS:
            first, second = members(one), members(other)
            before = one.tables(), other.tables()
            union, common, rest = one | other, one & other, one - other
            for made in (union, common, rest):
                self.assertIsInstance(made, Lot)
                self.check_parts(made)
                self.assertIsNot(made, one)
                self.assertIsNot(made, other)
            self.assertEqual(members(union), [one for one in GRIDS[one.clocks] if one in first or one in second])
            self.assertEqual(members(common), [one for one in first if one in second])
            self.assertEqual(members(rest), [one for one in first if one not in second])
            self.assertEqual((one.tables(), other.tables()), before)

    def test_with_itself_and_the_empty_one(self):
        for lot, _ in LOTS:
            nothing, everything = Lot.nothing(lot.clocks), Lot.everything(lot.clocks)
            self.assertIs((lot - lot).is_empty(), True)
            self.assertIs((nothing - lot).is_empty(), True)
            self.assertIs((nothing & lot).is_empty(), True)
            self.assertIs((lot & nothing).is_empty(), True)
            self.assertIs((lot - everything).is_empty(), True)
            for same in (lot | lot, lot & lot, lot | nothing, nothing | lot, lot - nothing, lot & everything,
                         everything - (everything - lot)):
                self.assertIs(same.covers(lot), True)
                self.assertIs(lot.covers(same), True)
                self.assertEqual(members(same), members(lot))

    def test_missing_and_covers(self):
        told = []
        for (one, _), (other, _) in PAIRS:
            readings = one.missing(other)
            if readings is not None:
                self.assertIs(readings in other, True)
                self.assertIs(readings in one, False)
            else:
                self.assertLessEqual(set(members(other)), set(members(one)))
            self.assertIs(one.covers(other), readings is None)
            self.assertIs(one.covers(other), (other - one).is_empty())
            self.assertEqual(one.missing(other), readings)
            told.append(readings is None)
        self.assertIn(True, told)
        self.assertIn(False, told)

    def test_covered_only_together(self):
        low = Lot(1, table_with(1, (1, 0, (2, 0))))
        high = Lot(1, table_with(1, (0, 1, (-2, 1))))
        above = Lot(1, table_with(1, (0, 1, (-2, 0))))
        everything = Lot.everything(1)
        self.assertIs((low | high).covers(everything), True)
        self.assertIs((low | above).covers(everything), False)
        self.assertEqual((low | above).missing(everything), ((2, 1),))
        self.assertIs(low.covers(everything), False)
        self.assertIs(everything.covers(low | above), True)

    def test_everything_and_nothing(self):
        for clocks in (1, 2, 3):
            everything, nothing = Lot.everything(clocks), Lot.nothing(clocks)
            self.assertEqual((everything.clocks, nothing.clocks), (clocks, clocks))
            self.assertEqual(everything.tables(), (anything(clocks),))
            self.assertEqual(nothing.tables(), ())
            self.assertIs(everything.is_empty(), False)
            self.assertIs(nothing.is_empty(), True)
            self.assertIsNone(nothing.example())
            self.assertTrue(is_readings(clocks, everything.example()))
            self.assertIsNone(everything.missing(nothing))
            self.assertIs(everything.example() in everything, True)
            self.assertIs(((1, 1),) * clocks in nothing, False)

    def test_none_and_repeated_tables(self):
        table = table_with(2, (1, 0, (3, 0)))
        self.assertIs(Lot(2, None, None).is_empty(), True)
        lot = Lot(2, table, None, shut_oracle(table), table)
        self.assertEqual(lot.tables(), (shut_oracle(table),))
        self.assertIs(Lot(2, table_with(2, (1, 1, (0, 0)))).is_empty(), True)
        self.assertEqual((lot | lot).tables(), lot.tables())

    def test_moves(self):
        for lot, tables in LOTS:
            clocks = lot.clocks
            choices = [(), (1,), (clocks, 1), (1, 1)]
            pairs = [(lot.later(), [later(table) for table in tables]),
                     (lot.earlier(), [earlier(table) for table in tables])]
            for numbers in choices:
                pairs.append((lot.restart(*numbers), [restart(table, numbers) for table in tables]))
                pairs.append((lot.release(*numbers), [release(table, numbers) for table in tables]))
            before = lot.tables()
            for made, parts in pairs:
                self.check_parts(made)
                self.assertIsNot(made, lot)
                for readings in GRIDS[clocks]:
                    self.assertIs(readings in made, any(part is not None and keeps(part, readings) for part in parts))
            self.assertEqual(lot.tables(), before)

    def test_no_equality_of_its_own(self):
        self.assertNotEqual(Lot.everything(1), Lot.everything(1))
        self.assertNotIn("__eq__", vars(Lot))
        self.assertNotIn("__hash__", vars(Lot))


class TestUnlike(unittest.TestCase):
    def check_unlike(self, work, expected, given):
        with self.assertRaises(Unlike) as caught:
            work()
        self.assertEqual((caught.exception.expected, caught.exception.given), (expected, given))

    def test_constructor(self):
        self.check_unlike(lambda: Lot(2, anything(1)), 2, 1)
        self.check_unlike(lambda: Lot(1, None, anything(1), all_zero(3), anything(2)), 1, 3)
        self.check_unlike(lambda: Lot(2, table_with(3, (1, 1, (-1, 0)))), 2, 3)

    def test_operators_and_methods(self):
        for one, other in itertools.permutations((Lot.everything(1), Lot.nothing(2), Lot.everything(3), Lot.nothing(4)), 2):
            for work in (lambda: one | other, lambda: one & other, lambda: one - other, lambda: one.missing(other),
                         lambda: one.covers(other)):
                self.check_unlike(work, one.clocks, other.clocks)

    def test_readings(self):
        for lot in (Lot.everything(2), Lot.nothing(2), Lot(2, all_zero(2))):
            for count in (0, 1, 3, 4):
                self.check_unlike(lambda: ((1, 1),) * count in lot, 2, count)


class TestManyPieces(unittest.TestCase):
    def test_subtracting_many(self):
        boxes = [table_with(2, (1, 0, (k + 1, 0)), (0, 1, (-k, 0)), (2, 0, (m + 1, 0)), (0, 2, (-m, 0)))
                 for k in range(4) for m in range(4)]
        frame = Lot.everything(2) - Lot(2, *boxes)
        self.assertIs(((1, 2), (1, 2)) in frame, False)
        self.assertIs(((1, 1), (1, 2)) in frame, True)
        self.assertIs(((9, 2), (1, 2)) in frame, True)
        self.assertIs((frame & Lot(2, *boxes)).is_empty(), True)
        self.assertIs((frame | Lot(2, *boxes)).covers(Lot.everything(2)), True)


if __name__ == "__main__":
    unittest.main()
