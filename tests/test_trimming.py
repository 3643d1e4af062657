"""Point 97: gates without what no run uses."""

import unittest

from bellrest.alike import alike, bare_parting
from bellrest.gates import Gate
from bellrest.halls import Hall
from bellrest.running import lets
from bellrest.trimming import trimmed, unmet_states, unused_steps
from bellrest.watchers import ban, window
from helpers import door, grid, moves_oracle, random_gates, spots_by_distance


class TestTrimming(unittest.TestCase):
    def check(self, gate):
        unused, unmet = unused_steps(gate), unmet_states(gate)
        made = trimmed(gate)
        self.assertEqual((made.name, made.clocks, made.also), (gate.name, gate.clocks, gate.deeds))
        self.assertEqual(made.states, tuple(pair for pair in gate.states if pair[0] not in unmet))
        self.assertEqual(made.steps, tuple(step for index, step in enumerate(gate.steps) if index not in unused))
        self.assertEqual(made.deeds, gate.deeds)
        self.assertEqual((unused_steps(made), unmet_states(made)), ((), ()))
        self.assertIsNone(bare_parting(gate, made))
        if gate.is_settled():
            self.assertIs(alike(gate, made), True)
        return len(unused), len(unmet)

    def test_random(self):
        sizes = []
        for gate in random_gates(970, 400):
            spots = spots_by_distance(gate)
            used = {move for spot in spots for move, _ in moves_oracle(gate, spot)}
            met = {state for state, _ in spots}
            self.assertEqual(unused_steps(gate), tuple(step for step in range(len(gate.steps)) if step not in used))
            self.assertEqual(unmet_states(gate), tuple(state for state, _ in gate.states if state not in met))
            sizes.append(self.check(gate))
        self.assertGreater(sizes.count((0, 0)), 20)
        self.assertGreater(len([pair for pair in sizes if pair[0] > 0 and pair[1] > 0]), 100)
        self.assertGreater(len([pair for pair in sizes if pair[0] > 0 and pair[1] == 0]), 20)

    def test_the_same_rows(self):
        for gate in random_gates(971, 60):
            made = trimmed(gate)
            for one, in grid(1, 2, 3):
                for other, in grid(1, 2, 3):
                    for first in gate.deeds:
                        for second in gate.deeds:
                            row = ((one, first), (other, second))
                            if one[0] * other[1] <= other[0] * one[1]:
                                self.assertEqual(lets(gate, row), lets(made, row))

    def test_door(self):
        self.assertEqual(self.check(door()), (0, 0))
        self.assertEqual(trimmed(door()).also, ("bell", "push"))

    def test_only_the_start_is_left(self):
        gate = Gate("g", ("x",), (("a", (("x", (1, 1)),)), ("b", ())), (("a", "go", (("x", ((2, 1), None)),), (), "b"), ("b", "end", (), (), "a")), ("hum",))
        self.assertEqual((unused_steps(gate), unmet_states(gate)), ((0, 1), ("b",)))
        made = trimmed(gate)
        self.assertEqual((made.states, made.steps, made.also), ((("a", (("x", (1, 1)),)),), (), ("end", "go", "hum")))
        self.check(gate)

    def test_the_stay_of_the_target(self):
        gate = Gate("g", ("x",), (("a", ()), ("b", (("x", (1, 1)),))), (("a", "go", (("x", ((1, 0), None)),), (), "b"), ("a", "go", (("x", ((1, 0), None)),), ("x",), "b")))
        self.assertEqual((unused_steps(gate), unmet_states(gate)), ((0,), ()))
        self.check(gate)

    def test_equal_steps_and_states_in_the_middle(self):
        steps = (("a", "go", (), (), "c"), ("b", "go", (), (), "c"), ("a", "go", (), (), "c"), ("c", "end", (("x", ((0, 1), (1, 1))),), (), "a"))
        gate = Gate("g.h", ("x.y", "x"), (("a", ()), ("b", ()), ("c", ())), steps)
        self.assertEqual((unused_steps(gate), unmet_states(gate)), ((1,), ("b",)))
        self.check(gate)

    def test_halls(self):
        hall = Hall(door(), window("day", ((0, 1), (5, 1)), ("bell",)), ban("no", ("push",))).joined()
        self.assertEqual(self.check(hall), (len(hall.steps), 1))
        hall = Hall(door(), window("day", ((6, 1), (7, 1)), ("bell", "push"))).joined()
        self.assertEqual(self.check(hall), (0, 0))


if __name__ == "__main__":
    unittest.main()
