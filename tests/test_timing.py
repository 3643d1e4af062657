"""Points 63, 66 and 67: soonest and latest."""

import unittest
from fractions import Fraction

from bellrest.errors import InvalidGoal, UnknownName
from bellrest.gates import Gate
from bellrest.goals import goal_ceilings
from bellrest.halls import Hall
from bellrest.hands import edge_from, hours_table, is_hours_table
from bellrest.pathtables import path_table
from bellrest.spans import span
from bellrest.timing import between, first_span, late_run, longest_without, soon_run, soonest
from bellrest.watchers import ban, pace, turns, window
from helpers import (
    Walk, connected_tables, door, end_of, fraction, in_span_oracle, raised, random_gates, random_goal, seeded, walked, wrong_goals)


def low_key(edge):
    return edge[0], -edge[1]


def lowest(edges):
    return min(edges, key=low_key, default=None)


def highest(edges):
    """The greatest edge, None if there is no upper limit."""
    return None if None in edges else max(edges)


def let_run(case, gate, run):
    """The Walk at the end of a run that must be let."""
    row, path, rest = run
    case.assertEqual(len(row), len(path))
    _, walk = walked(gate, run)
    case.assertIsInstance(walk, Walk)
    return walk


class TestSoonest(unittest.TestCase):
    def check(self, gate, goal, within=(1, 50)):
        edge, run = soonest(gate, goal), soon_run(gate, goal, within)
        table = hours_table(gate, goal)
        # The table is a certificate for the lower limit, the run one that it is reached or neared.
        self.assertIs(is_hours_table(gate, goal_ceilings(gate, goal), table), True)
        self.assertEqual(edge, edge_from(gate, goal, table))
        if edge is None:
            self.assertIsNone(run)
            return None
        state, readings = let_run(self, gate, run).standing()
        self.assertTrue(goal[0] in (None, state))
        self.assertTrue(all(in_span_oracle(readings[gate.clocks.index(clock)], test) for clock, test in goal[1]))
        limit, reach = edge
        if reach == 1:
            self.assertEqual(end_of(run), limit)
        else:
            self.assertTrue(limit < end_of(run) < limit + fraction(within))
        return edge

    def test_random_gates(self):
        chance = seeded(63)
        told = {}
        for gate in random_gates(63, 200):
            goal = random_goal(chance, gate)
            edge = self.check(gate, goal, chance.choice(((1, 1), (1, 9), (1, 1000), (99, 1))))
            # What the first few paths allow is never earlier.
            for path in connected_tables(gate, 3):
                if goal[0] in (None, gate.steps[path[-1]][4] if path else gate.states[0][0]):
                    found = path_table(gate, path, goal[1])
                    if found is not None:
                        low = found[0][len(path) + 1]
                        self.assertLessEqual(low_key(edge), low_key((-low[0], low[1])))
            kind = None if edge is None else edge[1]
            told[kind] = told.get(kind, 0) + 1
        self.assertGreater(min(told.values()), 20)
        self.assertEqual(len(told), 3)

    def test_reached_and_neared(self):
        gate = door()
        self.assertEqual(self.check(gate, (None, ())), (0, 1))
        self.assertEqual(self.check(gate, ("ajar", ())), (1, 1))
        self.assertEqual(self.check(gate, ("ajar", (("x", ((1, 0), None)),))), (2, 0))
        self.assertEqual(self.check(gate, ("ajar", (("x", ((2, 1), None)),))), (3, 1))
        self.assertIsNone(self.check(gate, ("ajar", (("x", ((2, 0), None)),))))
        self.assertEqual(self.check(gate, ("shut", (("x", ((42, 0), None)),))), (42, 0))
        self.assertIsNone(soon_run(gate, ("ajar", (("x", ((2, 0), None)),)), (1, 1)))

    def test_within(self):
        for within in ((1, 1), (1, 10 ** 11), (10 ** 11, 1), (999999999999, 10 ** 11)):
            self.check(door(), ("ajar", (("x", ((1, 0), None)),)), within)

    def test_only_neared_after_some_rounds(self):
        # Each step needs a rest above zero, four of them more than 3 hours in all.
        gate = Gate("g", ("x", "y"), (("s", (("x", (1, 1)),)),), (("s", "go", (("x", ((0, 0), None)),), ("x",), "s"),))
        self.assertEqual(self.check(gate, (None, (("x", ((0, 1), (0, 1))), ("y", ((3, 0), None))))), (3, 0))
        self.assertEqual(self.check(gate, (None, (("x", ((0, 1), (0, 1))), ("y", ((3, 1), None))))), (3, 1))
        self.assertEqual(self.check(gate, (None, (("x", ((0, 1), (0, 1))), ("y", ((0, 0), None))))), (0, 0))

    def test_halls(self):
        calm = Hall(door(), pace("calm", span(3), ("bell", "push"))).joined()
        self.assertEqual(self.check(calm, ("ajar.go", ())), (3, 1))
        self.assertIsNone(self.check(calm, ("shut.go", (("calm.c", ((0, 1), (0, 1))), ("door.x", ((0, 0), (2, 1)))))))
        late = Hall(door(), window("day", span(4, 6, low_reach=0), ("bell",)), turns("two", ("push", "bell"))).joined()
        self.assertEqual(self.check(late, ("shut.go.a", (("day.t", ((3, 1), None)), ("door.x", ((0, 1), (1, 1)))))), (4, 0))

    def test_wrong_goals(self):
        for value in wrong_goals(door(), ("ajar", (("x", ((0, 1), (1, 1))),))):
            self.assertEqual(raised(self, InvalidGoal, soonest, door(), value), {"value": value})
            self.assertEqual(raised(self, InvalidGoal, soon_run, door(), value, (1, 2)), {"value": value})


def first_times(gate, deed, most):
    """The edges of the first moments of the deed over all paths with at most so many steps."""
    lows, highs = [], []
    for path, table in connected_tables(gate, most).items():
        deeds = [gate.steps[step][1] for step in path]
        if deed in deeds and deeds.index(deed) == len(deeds) - 1:
            low = table[0][len(path)]
            lows.append((-low[0], low[1]))
            highs.append(table[len(path)][0])
    return lows, highs


# A lamp that must be pushed every hour, and that a bell ends: there is no limit, but no rest is long either.
BUSY = Gate("busy", ("x",), (("on", (("x", (1, 1)),)),),
            (("on", "push", (("x", ((0, 0), None)),), ("x",), "on"), ("on", "bell", (("x", ((1, 0), None)),), (), "on"),
             ("on", "ring", (("x", ((0, 0), (1, 0))),), (), "on")))
# At most three pushes, each within an hour.
THREE = Hall(Gate("a", ("x",), (("s", (("x", (1, 0)),)), ("t", (("x", (2, 1)),))),
                  (("s", "push", (), ("x",), "s"), ("s", "bell", (), ("x",), "t"), ("t", "ring", (), (), "t"))),
             turns("b", ("push", "push", "push", "bell", "push"))).joined()


class TestFirst(unittest.TestCase):
    def check(self, gate, deed, most=4, within=(1, 50)):
        """Check all answers; are those of the first few paths the same?"""
        found = first_span(gate, deed)
        lows, highs = first_times(gate, deed, most)
        if found is None:
            self.assertEqual(lows, [])
            self.assertIsNone(late_run(gate, deed, within))
            return True
        low, high = found
        self.check_late(gate, deed, high, within)
        if lows:
            self.assertLessEqual(low_key(low), low_key(lowest(lows)))
            self.assertTrue(high is None or high >= highest(highs))
        return lows != [] and low == lowest(lows) and high == highest(highs)

    def check_late(self, gate, deed, high, within):
        run = late_run(gate, deed, within)
        let_run(self, gate, run)
        self.assertEqual([name for _, name in run[0]].index(deed), len(run[0]) - 1)
        self.assertEqual(run[2], (0, 1))
        if high is None:
            self.assertGreaterEqual(end_of(run), fraction(within))
        elif high[1] == 1:
            self.assertEqual(end_of(run), high[0])
        else:
            self.assertTrue(high[0] - fraction(within) < end_of(run) < high[0])

    def test_random_gates(self):
        chance = seeded(66)
        same = []
        kinds = set()
        for gate in random_gates(67, 150):
            for deed in gate.deeds:
                same.append(self.check(gate, deed, 3, chance.choice(((1, 1), (1, 9), (1, 1000), (7, 1), (25, 2)))))
                found = first_span(gate, deed)
                kinds.add(None if found is None else (found[0][1], found[1] and found[1][1]))
        self.assertGreater(same.count(True), 0.9 * len(same))
        self.assertEqual(kinds, {None, (1, None), (0, None), (1, 1), (1, 0), (0, 1), (0, 0)})

    def test_door(self):
        self.assertEqual(first_span(door(), "push"), ((1, 1), None))
        self.assertEqual(first_span(door(), "bell"), ((1, 1), None))
        self.assertIsNone(first_span(Hall(door(), ban("no", ("push",))).joined(), "bell"))
        self.check_late(door(), "bell", None, (999999999999, 1))
        self.check_late(door(), "push", None, (1, 999999999999))

    def test_limits(self):
        self.assertEqual(first_span(BUSY, "push"), ((0, 0), (1, 1)))
        self.assertIsNone(first_span(BUSY, "bell"))
        self.assertEqual(first_span(BUSY, "ring"), ((0, 0), None))
        self.assertEqual(first_span(THREE, "push"), ((0, 1), (1, 0)))
        self.assertEqual(first_span(THREE, "bell"), ((0, 1), (4, 0)))
        self.assertEqual(first_span(THREE, "ring"), ((0, 1), (6, 0)))
        for gate, deed in ((BUSY, "push"), (BUSY, "ring"), (THREE, "push"), (THREE, "bell"), (THREE, "ring")):
            for within in ((1, 1), (1, 3), (1, 999), (5, 1)):
                self.check_late(gate, deed, first_span(gate, deed)[1], within)

    def test_many_rounds(self):
        # A run without one long rest: the push comes at least once an hour.
        run = late_run(BUSY, "ring", (200, 1))
        self.check_late(BUSY, "ring", None, (200, 1))
        self.assertGreaterEqual(len(run[0]), 200)
        self.check_late(BUSY, "ring", None, (401, 2))

    def test_rounds_of_random_gates(self):
        chance = seeded(70)
        many = 0
        for gate in random_gates(70, 400):
            # In each state x must be set back, so that no rest is long.
            states = tuple((name, (("x", (chance.randint(1, 2), chance.randint(0, 1))),)) for name, _ in gate.states)
            busy = Gate("busy", gate.clocks, states, gate.steps, gate.also)
            for deed in busy.deeds:
                found = first_span(busy, deed)
                if found is not None:
                    self.check_late(busy, deed, found[1], (25, 2))
                    many += found[1] is None
        self.assertGreater(many, 20)

    def test_deeds_without_steps(self):
        gate = Gate("g", ("x",), (("s", ()),), (), ("push",))
        self.assertIsNone(first_span(gate, "push"))
        self.assertIsNone(late_run(gate, "push", (1, 1)))
        self.assertIsNone(longest_without(gate, "push"))
        self.assertIsNone(between(gate, "push", "push"))

    def test_unknown_deeds(self):
        for deed in ("creak", "door", "x", "shut"):
            self.assertEqual(raised(self, UnknownName, first_span, door(), deed), {"name": deed})
            self.assertEqual(raised(self, UnknownName, late_run, door(), deed, (1, 2)), {"name": deed})
            self.assertEqual(raised(self, UnknownName, longest_without, door(), deed), {"name": deed})
            self.assertEqual(raised(self, UnknownName, between, door(), deed, "push"), {"name": deed})
            self.assertEqual(raised(self, UnknownName, between, door(), "push", deed), {"name": deed})
            self.assertEqual(raised(self, UnknownName, between, door(), deed, "knock"), {"name": deed})


class TestLongest(unittest.TestCase):
    def test_random_gates(self):
        same, kinds = [], []
        for gate in random_gates(68, 150):
            for deed in gate.deeds:
                found = longest_without(gate, deed)
                ends = [table[len(path) + 1][0] for path, table in connected_tables(gate, 3).items()
                        if deed not in [gate.steps[step][1] for step in path]]
                self.assertTrue(found is None or found >= highest(ends))
                same.append(found == highest(ends))
                kinds.append(None if found is None else found[1])
        self.assertGreater(same.count(True), 0.9 * len(same))
        self.assertGreater(min(kinds.count(kind) for kind in (None, 0, 1)), 5)

    def test_limits(self):
        self.assertIsNone(longest_without(door(), "push"))
        # The pushed door must be shut again, but then it rests for ever.
        self.assertIsNone(longest_without(door(), "bell"))
        self.assertEqual(longest_without(BUSY, "push"), (1, 1))
        self.assertIsNone(longest_without(BUSY, "ring"))
        self.assertEqual(longest_without(THREE, "push"), (1, 0))
        self.assertEqual(longest_without(THREE, "bell"), (4, 0))
        self.assertEqual(longest_without(THREE, "ring"), (6, 0))
        locked = Gate("g", ("x",), (("s", (("x", (3, 1)),)), ("t", (("x", (5, 1)),))), (("s", "go", (), (), "t"),))
        self.assertEqual(longest_without(locked, "go"), (3, 1))

    def test_hours_in_a_state_without_a_way_out(self):
        gate = Gate("g", ("x",), (("s", (("x", (1, 0)),)), ("t", ())), (("s", "go", (), (), "t"), ("s", "end", (), (), "s")))
        self.assertEqual(longest_without(gate, "go"), (1, 0))
        self.assertIsNone(longest_without(gate, "end"))
        self.assertEqual(first_span(gate, "end"), ((0, 1), (1, 0)))


def passages(gate, first, second, most):
    """The edges of the rests over all passages in paths with at most so many steps."""
    lows, highs = [], []
    for path, table in connected_tables(gate, most).items():
        deeds = [gate.steps[step][1] for step in path]
        if deeds and deeds[-1] == second:
            at = [k for k, deed in enumerate(deeds[:-1]) if deed in (first, second)][-1:]
            if at and deeds[at[0]] == first:
                low = table[at[0] + 1][len(path)]
                lows.append((-low[0], low[1]))
                highs.append(table[len(path)][at[0] + 1])
    return lows, highs


class TestBetween(unittest.TestCase):
    def test_random_gates(self):
        same, kinds = [], set()
        for gate in random_gates(69, 120):
            for first in gate.deeds:
                for second in gate.deeds:
                    found = between(gate, first, second)
                    lows, highs = passages(gate, first, second, 3)
                    if found is None:
                        self.assertEqual(lows, [])
                        same.append(True)
                        kinds.add(None)
                    else:
                        if lows:
                            self.assertLessEqual(low_key(found[0]), low_key(lowest(lows)))
                            self.assertTrue(found[1] is None or found[1] >= highest(highs))
                        same.append(lows != [] and found == (lowest(lows), highest(highs)))
                        kinds.add((found[0][1], found[1] and found[1][1]))
        self.assertGreater(same.count(True), 0.9 * len(same))
        self.assertEqual(kinds, {None, (1, None), (0, None), (1, 1), (1, 0), (0, 1), (0, 0)})

    def test_door(self):
        self.assertEqual(between(door(), "push", "bell"), ((0, 1), (2, 1)))
        self.assertEqual(between(door(), "bell", "push"), ((0, 1), None))
        self.assertEqual(between(door(), "push", "push"), ((1, 1), None))
        self.assertEqual(between(door(), "bell", "bell"), ((0, 1), None))

    def test_entries_between(self):
        # Other deeds may stand between the two entries, but none of the two themselves.
        self.assertEqual(between(THREE, "push", "push"), ((0, 1), (1, 0)))
        self.assertEqual(between(THREE, "push", "bell"), ((0, 1), (1, 0)))
        self.assertEqual(between(THREE, "push", "ring"), ((0, 1), (3, 0)))
        self.assertEqual(between(THREE, "ring", "ring"), ((0, 1), (2, 1)))
        self.assertIsNone(between(THREE, "bell", "bell"))
        self.assertIsNone(between(THREE, "ring", "bell"))
        self.assertEqual(between(BUSY, "push", "ring"), ((0, 0), (1, 0)))
        self.assertEqual(between(BUSY, "ring", "push"), ((0, 1), (1, 0)))
        self.assertEqual(between(BUSY, "ring", "ring"), ((0, 1), None))

    def test_the_whole_row_must_be_let(self):
        # The second deed can come 5 hours after the first one, but only where the row before was let.
        gate = Gate("g", ("x", "y"), (("s", (("y", (3, 1)),)), ("t", (("y", (5, 1)),))),
                    (("s", "go", (("x", ((1, 1), None)),), ("x",), "t"), ("t", "end", (), (), "t")))
        self.assertEqual(between(gate, "go", "end"), ((0, 1), (4, 1)))

    def test_equal_calls(self):
        self.assertEqual(late_run(BUSY, "ring", (3, 1)), late_run(BUSY, "ring", (3, 1)))
        goal = ("ajar", (("x", ((1, 0), None)),))
        self.assertEqual(soon_run(door(), goal, (1, 3)), soon_run(door(), goal, (1, 3)))


if __name__ == "__main__":
    unittest.main()
