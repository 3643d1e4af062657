"""Point 93: slack and the spans of rests."""

import unittest
from fractions import Fraction

from bellrest.errors import InvalidRow, NotLet
from bellrest.gates import Gate
from bellrest.pathtables import path_conditions, path_table
from bellrest.running import paths, standing_after
from bellrest.shutting import shut
from bellrest.slack import rest_spans, slack
from bellrest.tables import table_with
from helpers import (
    ODD_VALUES, as_moment, connected_tables, door, fraction, near_values, raised, random_gates, random_row, seeded, span_oracle, walked)

S = (("s", ()),)


def changed_row(row, place, rest):
    """The row with this rest before the entry; all later entries keep their distances."""
    before = fraction(row[place - 1][0]) if place else Fraction(0)
    change = before + rest - fraction(row[place][0])
    return row[:place] + tuple((as_moment(fraction(moment) + change), deed) for moment, deed in row[place:])


def is_possible(gate, row, path, place, rest):
    return walked(gate, (changed_row(row, place, rest), path, (0, 1)))[1] is not None


class TestSlack(unittest.TestCase):
    def check(self, gate, row, path, place, kinds):
        low, high = slack(gate, row, path, place)
        bottom = fraction(low[0])
        tiny = Fraction(1, 10 ** 6)
        self.assertGreaterEqual(bottom, 0)
        self.assertEqual(is_possible(gate, row, path, place, bottom), low[1] == 1)
        if bottom > 0:
            self.assertFalse(is_possible(gate, row, path, place, bottom - min(tiny, bottom)))
        if high is None:
            self.assertTrue(is_possible(gate, row, path, place, bottom + 1000))
            tops = [bottom + tiny, bottom + 7]
        else:
            top = fraction(high[0])
            self.assertEqual(is_possible(gate, row, path, place, top), high[1] == 1)
            self.assertFalse(is_possible(gate, row, path, place, top + tiny))
            self.assertTrue(bottom < top or (bottom == top and low[1] == high[1] == 1))
            tops = [top - (top - bottom) * part for part in (tiny, Fraction(1, 3))]
        for rest in tops:
            self.assertTrue(is_possible(gate, row, path, place, rest))
        kinds.add((low[1], None if high is None else high[1], bottom > 0, low[0][1] > 1))

    def test_random(self):
        chance = seeded(93)
        kinds, count = set(), 0
        for gate in random_gates(93, 400):
            for _ in range(12):
                row = random_row(chance, chance.randint(1, 4), chance.choice((1, 2, 3)))
                for path in paths(gate, row)[:2]:
                    for place in range(len(row)):
                        self.check(gate, row, path, place, kinds)
                        count += 1
        self.assertGreater(count, 1000)
        for low in (0, 1):
            for high in (None, 0, 1):
                self.assertTrue(any(kind[:2] == (low, high) for kind in kinds), (low, high))
        self.assertTrue(any(kind[2] and kind[3] for kind in kinds))

    def test_door(self):
        row = (((3, 2), "push"), ((2, 1), "bell"), ((7, 2), "push"))
        self.assertEqual(slack(door(), row, (0, 1, 0), 0), (((1, 1), 1), None))
        self.assertEqual(slack(door(), row, (0, 1, 0), 1), (((0, 1), 1), ((2, 1), 1)))
        self.assertEqual(slack(door(), row, (0, 1, 0), 2), (((1, 2), 1), None))

    def test_later_entries_count(self):
        # Clock x goes on over the bell; y is set back by it.
        gate = Gate("g", ("x", "y"), S, (("s", "bell", (), ("y",), "s"), ("s", "push", (("x", ((2, 0), (5, 1))), ("y", ((1, 1), (1, 1)))), (), "s")))
        row = (((2, 1), "bell"), ((3, 1), "push"))
        self.assertEqual(slack(gate, row, (0, 1), 0), (((1, 1), 0), ((4, 1), 1)))
        self.assertEqual(slack(gate, row, (0, 1), 1), (((1, 1), 1), ((1, 1), 1)))

    def test_the_stay_of_the_last_state_counts(self):
        gate = Gate("g", ("x",), (("s", ()), ("t", (("x", (3, 0)),))), (("s", "go", (), (), "t"), ("s", "come", (), ("x",), "t")))
        self.assertEqual(slack(gate, (((1, 1), "go"),), (0,), 0), (((0, 1), 1), ((3, 1), 0)))
        self.assertEqual(slack(gate, (((1, 1), "come"),), (1,), 0), (((0, 1), 1), None))

    def test_zero_is_only_neared(self):
        gate = Gate("g", ("x",), S, (("s", "go", (("x", ((0, 0), None)),), ("x",), "s"),))
        self.assertEqual(slack(gate, (((1, 7), "go"), ((2, 7), "go")), (0, 0), 1), (((0, 1), 0), None))

    def test_wrong_rows(self):
        wrong = 0
        for row in list(ODD_VALUES) + list(near_values((((1, 1), "push"), ((2, 1), "bell")))):
            try:
                paths(door(), row)
            except InvalidRow as error:
                for place in (0, -1, 5):
                    self.assertEqual(raised(self, InvalidRow, slack, door(), row, (1, 1), place), vars(error))
                wrong += 1
        self.assertGreater(wrong, 100)

    def test_runs_that_are_not_let(self):
        row = (((1, 1), "push"), ((4, 1), "bell"))
        for place in (0, 1, -1, 9):
            self.assertEqual(raised(self, NotLet, slack, door(), row, (0, 1), place), {"index": 1})
            self.assertEqual(raised(self, NotLet, slack, door(), row, (1, 1), place), {"index": 0})
            self.assertEqual(raised(self, NotLet, slack, door(), row[:1] + (((2, 1), "bell"),), (0, 0), place), {"index": 1})

    def test_wrong_places(self):
        row = (((1, 1), "push"), ((2, 1), "bell"))
        for place in (-1, 2, 10 ** 20, -10 ** 20):
            self.assertEqual(raised(self, InvalidRow, slack, door(), row, (0, 1), place), {"index": place})
        self.assertEqual(raised(self, InvalidRow, slack, door(), (), (), 0), {"index": 0})
        self.assertEqual(raised(self, InvalidRow, slack, door(), (), (), -1), {"index": -1})


class TestRestSpans(unittest.TestCase):
    def test_random(self):
        kinds = set()
        for gate in random_gates(94, 150):
            for path in connected_tables(gate, 3):
                found = rest_spans(gate, path)
                self.assertEqual(len(found), len(path))
                for number, span in enumerate(found, 1):
                    self.assertTrue(span_oracle(span))
                    self.check_span(gate, path, number, span)
                    kinds.add((span[0][1], span[1] and span[1][1]))
        self.assertEqual(kinds, {(low, high) for low in (0, 1) for high in (None, 0, 1)})

    def check_span(self, gate, path, number, span):
        """Each limit is reached or only neared, and nothing lies outside."""
        low, high = span

        def possible(*conditions):
            return shut(table_with(len(path) + 1, *path_conditions(gate, path, ()), *conditions)) is not None

        def at_most(edge):
            return possible((number, number - 1, edge))

        def at_least(edge):
            return possible((number - 1, number, (-edge[0], edge[1])))

        self.assertFalse(at_most((low[0], 1 - low[1])) if low[1] == 0 else at_most((low[0], 0)))
        self.assertTrue(at_most((low[0], 1)) if low[1] == 1 else at_most((low[0] + 1, 0)))
        if high is None:
            self.assertTrue(at_least((10 ** 6, 1)))
        else:
            self.assertFalse(at_least((high[0], 1)) if high[1] == 0 else at_least((high[0], 0)))
            self.assertTrue(at_least((high[0], 1)) if high[1] == 1 else at_least((high[0] - 1, 0)))

    def test_paths(self):
        self.assertEqual(rest_spans(door(), ()), ())
        self.assertEqual(rest_spans(door(), (0, 1, 0)), (((1, 1), None), ((0, 1), (2, 1)), ((0, 1), None)))
        for path in ((1,), (0, 0), (0, 1, 1), (1, 0)):
            self.assertIsNone(path_table(door(), path))
            self.assertIsNone(rest_spans(door(), path))
        late = Gate("g", ("x",), (("s", (("x", (2, 1)),)),), (("s", "go", (("x", ((3, 1), None)),), (), "s"), ("s", "go", (), (), "s")))
        self.assertIsNone(rest_spans(late, (0,)))
        self.assertIsNone(rest_spans(late, (1, 0)))
        self.assertEqual(rest_spans(late, (1, 1)), (((0, 1), (2, 1)),) * 2)

    def test_the_rest_at_the_end_is_zero(self):
        # The runs need not be able to go on.
        gate = Gate("g", ("x",), (("s", ()), ("t", (("x", (1, 1)),))), (("s", "go", (("x", ((1, 1), None)),), (), "t"),))
        self.assertEqual(rest_spans(gate, (0,)), (((1, 1), (1, 1)),))
        self.assertEqual(standing_after(gate, ((((1, 1), "go"),), (0,), (0, 1))), ("t", ((1, 1),)))


if __name__ == "__main__":
    unittest.main()
