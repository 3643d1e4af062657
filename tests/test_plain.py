"""Point 107: plain enumeration."""

import itertools
import types
import unittest
from fractions import Fraction

from bellrest.gates import Gate
from bellrest.plain import grid_bare, grid_rows
from bellrest.running import lets
from helpers import as_moment, door, fraction, random_gates, seeded

S = (("s", ()),)


def rows_oracle(gate, length, parts, until):
    moments = [Fraction(number, parts) for number in range(until * parts + 1)]
    for entries in itertools.product(itertools.product(moments, gate.deeds), repeat=length):
        if all(one[0] <= other[0] for one, other in zip(entries, entries[1:])):
            row = tuple((as_moment(moment), deed) for moment, deed in entries)
            if lets(gate, row):
                yield row


class TestGrid(unittest.TestCase):
    def check(self, gate, length, parts, until):
        found = list(grid_rows(gate, length, parts, until))
        self.assertEqual(found, list(rows_oracle(gate, length, parts, until)))
        keys = [[(fraction(moment), deed) for moment, deed in row] for row in found]
        self.assertEqual(keys, sorted(keys))
        self.assertEqual(len(set(found)), len(found))
        bare = sorted({tuple(deed for _, deed in row) for row in found})
        self.assertEqual(grid_bare(gate, length, parts, until), tuple(bare))
        return len(found)

    def test_random(self):
        chance = seeded(107)
        sizes = []
        for gate in random_gates(107, 250):
            length, parts, until = chance.choice(((0, 3, 2), (1, 4, 4), (2, 2, 3), (2, 3, 2), (3, 1, 3), (3, 2, 1)))
            sizes.append(self.check(gate, length, parts, until))
        self.assertGreater(sizes.count(0), 20)
        self.assertGreater(len([size for size in sizes if size > 50]), 20)

    def test_door(self):
        self.assertEqual(list(grid_rows(door(), 1, 2, 2)), [(((1, 1), "push"),), (((3, 2), "push"),), (((2, 1), "push"),)])
        self.assertEqual(self.check(door(), 3, 2, 3), 22)
        self.assertEqual(grid_bare(door(), 3, 2, 3), (("push", "bell", "push"),))
        self.assertEqual(grid_bare(door(), 3, 2, 1), ())

    def test_edges(self):
        self.assertEqual(list(grid_rows(door(), 0, 5, 0)), [()])
        self.assertEqual(grid_bare(door(), 0, 1, 0), ((),))
        self.assertEqual(list(grid_rows(door(), 1, 7, 0)), [])
        gate = Gate("g", ("x",), S, (("s", "b", (), (), "s"), ("s", "a", (), (), "s"), ("s", "b", (), ("x",), "s")), ("c",))
        self.assertEqual(list(grid_rows(gate, 1, 1, 1)), [(((0, 1), "a"),), (((0, 1), "b"),), (((1, 1), "a"),), (((1, 1), "b"),)])
        self.check(gate, 3, 1, 2)
        # The moment `until` itself belongs to the grid, and moments are in lowest terms.
        self.assertEqual([row[0][0] for row in grid_rows(Gate("g", ("x",), S, (("s", "a", (), (), "s"),)), 1, 4, 1)],
                         [(0, 1), (1, 4), (1, 2), (3, 4), (1, 1)])

    def test_fractions_are_compared(self):
        gate = Gate("g", ("x",), S, (("s", "a", (), (), "s"),))
        moments = [row[0][0] for row in grid_rows(gate, 1, 12, 11)]
        self.assertEqual(moments, sorted(moments, key=fraction))
        self.assertNotEqual(moments, sorted(moments))

    def test_a_generator(self):
        rows = grid_rows(door(), 3, 60, 90)
        self.assertIsInstance(rows, types.GeneratorType)
        # The first rows come before all of them are known.
        first = [next(rows) for _ in range(3)]
        self.assertEqual([row[2][0] for row in first], [(2, 1), (121, 60), (61, 30)])

    def test_stays_end(self):
        gate = Gate("g", ("x",), (("s", (("x", (2, 0)),)),), (("s", "a", (("x", ((1, 0), None)),), (), "s"),))
        self.assertEqual(self.check(gate, 2, 4, 9), 6)
        self.assertEqual(len(list(grid_rows(gate, 6, 2, 99))), 1)


if __name__ == "__main__":
    unittest.main()
