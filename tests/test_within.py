"""Points 80 and 81: rows of one gate within another."""

import unittest

from bellrest.errors import NotSettled
from bellrest.gates import Gate
from bellrest.halls import Hall
from bellrest.running import is_row, lets
from bellrest.watchers import pace
from bellrest.within import extra_row, is_within_table, within_table
from helpers import ODD_VALUES, check_judge, door, paths_oracle, raised, random_gates, seeded
from joint import Joint, is_extra_on_grid, pairs_of_gates, settled_gates, with_more_clocks

S = (("s", ()),)
# The bell is let up to 2 hours, but nothing more from then on; then the gate is silent.
SILENT = Gate("silent", ("x",), (("s", ()),), (("s", "bell", (("x", ((0, 1), (2, 1))),), (), "s"),))
SHORT = Gate("short", ("x",), (("s", (("x", (2, 1)),)),), (("s", "bell", (), (), "s"),))
UNSETTLED = Gate("u", ("x",), (("s", ()), ("t", ())), (("t", "bell", (), (), "t"), ("s", "bell", (), (), "s"), ("s", "bell", (), (), "t")))


def row_is_extra(case, one, other, row):
    case.assertIs(is_row(row), True)
    case.assertTrue(paths_oracle(one, row))
    case.assertFalse(paths_oracle(other, row))


class TestExtra(unittest.TestCase):
    def test_random(self):
        told = {}
        for one, other in pairs_of_gates(80, 1600):
            row = extra_row(one, other)
            count = None if row is None else len(row)
            told[count] = told.get(count, 0) + 1
            if row is not None:
                row_is_extra(self, one, other, row)
                self.assertEqual(extra_row(one, other), row)
            for length in range(min(2, 2 if row is None else len(row) - 1) + 1):
                if length < 2 or len(one.steps) < 4:
                    self.assertFalse(is_extra_on_grid(one, other, length))
        self.assertGreater(told[None], 100)
        self.assertGreater(told[1], 40)
        self.assertGreater(told[2], 10)
        self.assertGreater(told[3], 1)

    def test_gates_that_are_not_settled(self):
        # The first gate may have several paths for one row.
        told = []
        gates = [gate for gate in random_gates(801, 1200) if len(gate.steps) >= 2]
        others = settled_gates(802, 1600, 4)
        for one, other in zip(gates, others):
            for more in (other, all_deeds(one)):
                row = extra_row(one, more)
                told.append(row is None)
                if row is not None:
                    row_is_extra(self, one, more, row)
                    self.assertFalse(len(row) > 1 and is_extra_on_grid(one, more, 1))
                else:
                    self.assertFalse(is_extra_on_grid(one, more, 1))
        self.assertGreater(told.count(True), 100)
        self.assertGreater(told.count(False), 50)

    def test_itself(self):
        for gate in settled_gates(803, 200):
            self.assertIsNone(extra_row(gate, gate))
            self.assertIsNone(extra_row(gate, with_more_clocks(gate)))
            self.assertIsNone(extra_row(with_more_clocks(gate), gate))

    def test_many_entries(self):
        # Only the fifth bell in a row is too much.
        gate = Gate("g", ("x",), tuple((name, ()) for name in "abcde"),
                    tuple((one, "bell", (("x", ((1, 1), (1, 1))),), ("x",), other) for one, other in zip("abcd", "bcde")))
        bells = Gate("h", ("x",), S, (("s", "bell", (), ("x",), "s"),))
        self.assertIsNone(extra_row(gate, bells))
        self.assertEqual(len(extra_row(bells, gate)), 1)
        hours = Gate("h", ("x",), S, (("s", "bell", (("x", ((1, 1), (1, 1))),), ("x",), "s"),))
        self.assertEqual(extra_row(hours, gate), tuple(((hour, 1), "bell") for hour in range(1, 6)))

    def test_deeds_that_the_other_gate_does_not_have(self):
        one = Gate("g", ("x",), S, (("s", "knock", (("x", ((2, 0), None)),), (), "s"),), ("hum",))
        row = extra_row(one, door())
        row_is_extra(self, one, door(), row)
        self.assertEqual(len(row), 1)
        # A deed without steps makes no row.
        quiet = Gate("g", ("x",), S, (), ("knock", "hum"))
        self.assertIsNone(extra_row(quiet, door()))
        self.assertIsNone(extra_row(quiet, Gate("h", ("x",), S, ())))

    def test_stays(self):
        self.assertIsNone(extra_row(SILENT, SHORT))
        self.assertIsNone(extra_row(SHORT, SILENT))
        longer = Gate("longer", ("x",), S, (("s", "bell", (("x", ((0, 1), (2, 1))),), (), "s"), ("s", "ring", (("x", ((5, 1), None)),), (), "s")))
        more = Gate("more", ("x",), (("s", (("x", (2, 1)),)),), (("s", "bell", (), (), "s"), ("s", "ring", (), (), "s")))
        row = extra_row(longer, more)
        self.assertEqual(len(row), 1)
        self.assertEqual(row[0][1], "ring")
        # The target's stay counts as well: x goes on, and the target lets it read less.
        one = Gate("g", ("x",), (("s", ()), ("t", (("x", (3, 0)),))), (("s", "bell", (), (), "t"),))
        other = Gate("h", ("x",), (("s", ()), ("t", (("x", (2, 1)),))), (("s", "bell", (), (), "t"),))
        row = extra_row(one, other)
        row_is_extra(self, one, other, row)
        self.assertIsNone(extra_row(other, one))

    def test_rounded_limits(self):
        # Only the moment 2 itself makes the difference, and only readings above 2.
        for one, other, moments in ((((0, 1), (2, 1)), ((0, 1), (2, 0)), [(2, 1)]), (((2, 1), None), ((2, 0), None), [(2, 1)])):
            gates = [Gate("g", ("x",), S, (("s", "bell", (("x", span),), (), "s"),)) for span in (one, other)]
            self.assertEqual([moment for moment, _ in extra_row(*gates)], moments)
            self.assertIsNone(extra_row(*reversed(gates)))

    def test_several_matches(self):
        # Together the steps of the other gate let what the one step lets, but for the moment 2.
        one = Gate("g", ("x",), S, (("s", "bell", (), (), "s"),))
        spans = [((0, 1), (2, 0)), ((2, 0), (4, 1)), ((4, 0), None)]
        other = Gate("h", ("x",), S, tuple(("s", "bell", (("x", span),), (), "s") for span in spans))
        self.assertEqual(extra_row(one, other), (((2, 1), "bell"),))
        whole = Gate("h", ("x",), S, other.steps + (("s", "bell", (("x", ((2, 1), (2, 1))),), (), "s"),))
        self.assertIsNone(extra_row(one, whole))

    def test_differences_of_clocks(self):
        # The clock y of the one gate and x of the other one are set back together or not.
        one = Gate("g", ("x", "y"), S, (("s", "push", (), ("y",), "s"), ("s", "bell", (("y", ((3, 1), (3, 1))),), (), "s")))
        other = Gate("h", ("z",), S, (("s", "push", (), ("z",), "s"), ("s", "bell", (("z", ((3, 1), (3, 1))),), ("z",), "s")))
        row = extra_row(one, other)
        row_is_extra(self, one, other, row)
        self.assertEqual(len(row), 2)
        row = extra_row(other, one)
        row_is_extra(self, other, one, row)
        self.assertEqual(len(row), 2)

    def test_halls(self):
        slow = Hall(door(), pace("calm", ((3, 1), None), ("push",))).joined()
        self.assertIsNone(extra_row(slow, door()))
        row = extra_row(door(), slow)
        row_is_extra(self, door(), slow, row)
        self.assertEqual(len(row), 1)


def all_deeds(gate):
    """A settled gate that lets every row of the deeds, but no deed twice at one moment."""
    steps = tuple(("s", deed, (("x", ((0, 0), None)),), ("x",), "s") for deed in gate.deeds)
    return Gate("all", ("x",), S, steps)


class TestTables(unittest.TestCase):
    def test_random(self):
        told = [0, 0]
        for one, other in pairs_of_gates(81, 1200):
            if sum(one.ceilings + other.ceilings) <= 7:
                joint = Joint(one, other)
                reached = joint.reached()
                table = within_table(one, other)
                row = extra_row(one, other)
                self.assertEqual(table is None, row is not None)
                self.assertEqual(reached is None, table is None)
                told[table is None] += 1
                if table is not None:
                    order = [(one.state_index(state), other.state_index(more), kind) for state, more, kind in reached]
                    self.assertEqual(table, tuple((one.states[i][0], other.states[j][0], kind) for i, j, kind in sorted(order)))
                    self.assertIs(is_within_table(one, other, table), True)
        self.assertGreater(min(told), 30)

    def test_judge(self):
        one = Gate("g", ("x",), (("a", (("x", (1, 1)),)), ("b", ())), (("a", "go", (("x", ((0, 0), None)),), ("x",), "b"),))
        other = Gate("h", ("y",), (("s", (("y", (1, 1)),)), ("t", ())), (("s", "go", (), (), "t"),))
        joint = Joint(one, other)
        table = within_table(one, other)
        check_judge(self, lambda value: is_within_table(one, other, value), [table], joint.judge)

    def test_judge_of_silent_gates(self):
        joint = Joint(SILENT, SHORT)
        table = within_table(SILENT, SHORT)
        self.assertLess(max(kind[0] for _, _, kind in table), (3, 3))
        check_judge(self, lambda value: is_within_table(SILENT, SHORT, value), [table], joint.judge)
        # Where the stay of the one gate ends first, or both end, nothing more is needed.
        self.assertIs(is_within_table(SHORT, SILENT, within_table(SHORT, SILENT)), True)

    def test_parts_of_tables(self):
        for one, other in pairs_of_gates(82, 60):
            table = within_table(one, other)
            if table is not None and sum(one.ceilings + other.ceilings) <= 6:
                self.assertIs(is_within_table(one, other, table[::-1] + table[:1]), True)
                self.assertIs(is_within_table(one, other, list(table)), False)
                # Each joint spot but those is the first one or reached from another one.
                for at in range(len(table)):
                    self.assertIs(is_within_table(one, other, table[:at] + table[at + 1:]), False)

    def test_more_spots(self):
        chance = seeded(83)
        told = [0, 0]
        for one, other in pairs_of_gates(84, 400):
            table = within_table(one, other)
            if table is not None and sum(one.ceilings + other.ceilings) <= 4:
                joint = Joint(one, other)
                spots = joint.all_spots()
                for _ in range(4):
                    value = table + tuple(chance.choice(spots) for _ in range(1))
                    found = joint.judge(value)
                    self.assertIs(is_within_table(one, other, value), found)
                    told[found] += 1
        self.assertGreater(min(told), 10)

    def test_no_table_for_rows_that_are_not_within(self):
        # The closest thing to a table fails.
        for one, other in ((door(), SILENT), (SHORT, door())):
            self.assertIsNone(within_table(one, other))
            self.assertIs(is_within_table(one, other, tuple(Joint(one, other).all_spots())), False)


class TestErrors(unittest.TestCase):
    def test_not_settled(self):
        for function in (extra_row, within_table):
            for one in (door(), UNSETTLED):
                self.assertEqual(raised(self, NotSettled, function, one, UNSETTLED), {"state": "s", "deed": "bell"})
        for value in ODD_VALUES + (within_table(door(), door()),):
            self.assertEqual(raised(self, NotSettled, is_within_table, door(), UNSETTLED, value), {"state": "s", "deed": "bell"})

    def test_only_the_other_gate_must_be_settled(self):
        row_is_extra(self, UNSETTLED, SHORT, extra_row(UNSETTLED, SHORT))
        self.assertIsNone(extra_row(UNSETTLED, Gate("h", ("x",), S, (("s", "bell", (), (), "s"),))))

    def test_the_least_pair_counts(self):
        steps = (("s", "a", (), (), "s"), ("t", "b", (), (), "s"), ("s", "b", (), (), "t"), ("t", "b", (("x", ((1, 1), None)),), (), "t"),
                 ("s", "b", (), (), "s"))
        gate = Gate("g", ("x",), (("s", ()), ("t", ())), steps)
        self.assertEqual(raised(self, NotSettled, extra_row, door(), gate), {"state": "t", "deed": "b"})
        self.assertIs(lets(gate, ()), True)


if __name__ == "__main__":
    unittest.main()
