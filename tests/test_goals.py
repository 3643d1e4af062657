"""Point 60: goals, the standings that meet them, and their ceilings."""

import unittest

from bellrest.errors import InvalidGoal
from bellrest.gates import Gate
from bellrest.goals import goal_ceilings, is_goal, meets
from helpers import (
    check_judge, door, goal_oracle, grid, in_span_oracle, raised, random_gates, random_span, seeded, wrong_goals)

LAMP = Gate("lamp", ("x", "y"), (("off", ()), ("on", (("y", (3, 0)),))),
            (("off", "push", (), ("y",), "on"), ("on", "creak", (("y", ((1, 1), (2, 1))),), (), "off")))
GOALS = ((None, ()), ("on", ()), ("off", (("x", ((1, 0), None)),)), (None, (("y", ((5, 1), (5, 1))), ("x", ((0, 1), (1, 0))))))


class TestJudge(unittest.TestCase):
    def test_values(self):
        check_judge(self, lambda value: is_goal(LAMP, value), GOALS, lambda value: goal_oracle(LAMP, value))

    def test_forms(self):
        for value in (("open", ()), ("on", None), ("on",), (None, (("z", ((0, 1), None)),)), (("on",), ()), (None, []),
                      (None, (("x", ((0, 1), None)), ("x", ((0, 1), None)))), (None, (("x", ((1, 0), (1, 1))),)), ["on", ()],
                      (None, (("x", ((-1, 1), None)),)), (None, (["x", ((0, 1), None)],)), (None, ((1, ((0, 1), None)),))):
            self.assertIs(is_goal(LAMP, value), False)


class TestMeets(unittest.TestCase):
    def test_states_and_edges(self):
        self.assertIs(meets(LAMP, ("on", ()), ("on", ((0, 1), (0, 1)))), True)
        self.assertIs(meets(LAMP, ("on", ()), ("off", ((0, 1), (0, 1)))), False)
        self.assertIs(meets(LAMP, (None, ()), ("off", ((0, 1), (0, 1)))), True)
        for reading, told in (((1, 1), False), ((9, 8), True), ((5, 2), True), ((3, 1), False)):
            self.assertIs(meets(door(), (None, (("x", ((1, 0), (3, 0))),)), ("shut", (reading,))), told)

    def test_random(self):
        chance = seeded(60)
        told = [0, 0]
        for gate in random_gates(60, 30):
            for _ in range(10):
                state = chance.choice([None] + [name for name, _ in gate.states])
                goal = (state, tuple((clock, random_span(chance)) for clock in gate.clocks if chance.randint(0, 1)))
                for readings in grid(len(gate.clocks), 2, 2):
                    for now, _ in gate.states:
                        expected = state in (None, now) and all(
                            in_span_oracle(readings[gate.clocks.index(clock)], span) for clock, span in goal[1])
                        self.assertIs(meets(gate, goal, (now, readings)), expected)
                        told[expected] += 1
        self.assertGreater(min(told), 500)


class TestCeilings(unittest.TestCase):
    def test_raised_and_not(self):
        self.assertEqual(LAMP.ceilings, (0, 3))
        for goal, ceilings in zip(GOALS, ((0, 3), (0, 3), (1, 3), (1, 5))):
            self.assertEqual(goal_ceilings(LAMP, goal), ceilings)
        self.assertEqual(goal_ceilings(LAMP, (None, (("y", ((0, 1), (2, 1))),))), (0, 3))
        self.assertEqual(goal_ceilings(LAMP, (None, (("y", ((0, 1), (4, 1))),))), (0, 4))
        self.assertEqual(goal_ceilings(LAMP, (None, (("y", ((7, 1), None)), ("x", ((2, 1), (9, 0)))))), (9, 7))


class TestErrors(unittest.TestCase):
    def test_wrong_goals(self):
        for value in wrong_goals(LAMP, *GOALS):
            self.assertEqual(raised(self, InvalidGoal, meets, LAMP, value, ("off", ((0, 1), (0, 1)))), {"value": value})
            self.assertEqual(raised(self, InvalidGoal, goal_ceilings, LAMP, value), {"value": value})


if __name__ == "__main__":
    unittest.main()
