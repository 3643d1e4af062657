"""Point 61: goals that can be met, and goals that cannot."""

import unittest

from bellrest.errors import InvalidGoal
from bellrest.gates import Gate
from bellrest.halls import Hall
from bellrest.patches import avoids, is_closed_patches
from bellrest.pathtables import run_of
from bellrest.reach import find, never
from bellrest.watchers import pace, turns
from helpers import (
    connected_tables, door, in_span_oracle, raised, random_gates, random_goal, seeded, walked, wrong_goals)


def goal_met(gate, goal, run):
    _, walk = walked(gate, run)
    state, readings = walk.standing()
    return goal[0] in (None, state) and all(
        in_span_oracle(readings[gate.clocks.index(clock)], span) for clock, span in goal[1])


class TestGoals(unittest.TestCase):
    def check(self, gate, goal, most=4):
        """Check both answers; the number of entries, or None."""
        run, patches = find(gate, goal), never(gate, goal)
        if run is None:
            self.assertIs(is_closed_patches(gate, patches), True)
            self.assertIs(avoids(gate, goal, patches), True)
            for path in connected_tables(gate, most):
                self.assertFalse(ends_in(gate, goal, path) and run_of(gate, path, goal[1]) is not None)
            return None
        self.assertIsNone(patches)
        self.assertTrue(goal_met(gate, goal, run))
        # No shorter path leads to the goal.
        for path in connected_tables(gate, min(most, len(run[0]) - 1)) if run[0] else ():
            self.assertFalse(ends_in(gate, goal, path) and run_of(gate, path, goal[1]) is not None)
        return len(run[0])

    def test_random_gates(self):
        chance = seeded(61)
        counts = {}
        for gate in random_gates(61, 500):
            for _ in range(3):
                count = self.check(gate, random_goal(chance, gate), 3)
                counts[count] = counts.get(count, 0) + 1
        self.assertGreater(counts[None], 50)
        self.assertGreater(counts[0], 50)
        self.assertGreater(counts[1], 20)
        self.assertGreater(counts[2], 5)

    def test_met_at_the_start(self):
        self.assertEqual(find(door(), (None, ())), ((), (), (0, 1)))
        self.assertEqual(self.check(door(), ("shut", (("x", ((0, 1), (0, 1))),))), 0)
        # Only a rest is needed.
        self.assertEqual(self.check(door(), ("shut", (("x", ((98, 0), (99, 0))),))), 0)

    def test_edges_of_the_stay(self):
        self.assertEqual(self.check(door(), ("ajar", (("x", ((2, 1), (2, 1))),))), 1)
        self.assertIsNone(self.check(door(), ("ajar", (("x", ((2, 0), None)),))))
        self.assertEqual(self.check(door(), ("shut", (("x", ((0, 1), (1, 0))),))), 0)

    def test_limits_above_the_ceilings(self):
        # Without the goal's own ceilings, 5 hours and 9 hours would be of one kind.
        gate = Gate("g", ("x", "y"), (("s", (("x", (1, 1)),)), ("t", ())),
                    (("s", "go", (), ("x",), "s"), ("s", "end", (), (), "t")))
        self.assertEqual(self.check(gate, (None, (("x", ((0, 1), (1, 1))), ("y", ((2, 0), (3, 0)))))), 2)
        self.assertEqual(self.check(gate, ("s", (("y", ((3, 0), (4, 0))),)), 4), 3)
        self.assertEqual(self.check(gate, ("t", (("x", ((0, 1), (0, 1))), ("y", ((5, 1), (5, 1))))), 3), 6)

    def test_differences_are_kept(self):
        # y is always at least as great as x, and at most 1 greater after the step.
        gate = Gate("g", ("x", "y"), (("s", (("y", (1, 1)),)), ("t", ())), (("s", "go", (), ("x",), "t"),))
        self.assertIsNone(self.check(gate, (None, (("x", ((4, 1), None)), ("y", ((0, 1), (4, 0)))))))
        self.assertIsNone(self.check(gate, ("t", (("x", ((4, 1), (4, 1))), ("y", ((5, 0), None))))))
        self.assertEqual(self.check(gate, ("t", (("x", ((4, 1), (4, 1))), ("y", ((5, 1), None))))), 1)

    def test_many_rounds(self):
        # A goal that needs 12 rounds of pushes and bells.
        gate = Hall(door(), turns("order", ("push", "bell") * 12 + ("creak",))).joined()
        run = find(gate, ("shut.y", ()))
        self.assertEqual([deed for _, deed in run[0]], ["push", "bell"] * 12)
        slow = Hall(door(), pace("calm", ((3, 1), None), ("bell",))).joined()
        self.assertEqual(self.check(slow, ("shut.go", (("calm.c", ((0, 1), (0, 1))), ("door.x", ((2, 0), None))))), None)
        self.assertEqual(self.check(slow, ("shut.go", (("calm.c", ((0, 1), (0, 1))), ("door.x", ((2, 1), None))))), 2)

    def test_equal_calls(self):
        for gate in random_gates(65, 10):
            goal = (gate.states[-1][0], ())
            self.assertEqual(find(gate, goal), find(gate, goal))
            self.assertEqual(never(gate, goal), never(gate, goal))

    def test_wrong_goals(self):
        for value in wrong_goals(door(), ("ajar", (("x", ((0, 1), (1, 1))),))):
            for function in (find, never):
                self.assertEqual(raised(self, InvalidGoal, function, door(), value), {"value": value})


def ends_in(gate, goal, path):
    state = gate.steps[path[-1]][4] if path else gate.states[0][0]
    return goal[0] in (None, state)


if __name__ == "__main__":
    unittest.main()
