"""Point 90: gates that can hang."""

import unittest

from bellrest.gates import Gate
from bellrest.halls import Hall
from bellrest.hanging import hang_run, stuck, stuck_spots
from bellrest.running import is_run, rested, standing_after
from bellrest.spots import is_spot, spot_of
from bellrest.watchers import ban, pace, window
from helpers import (
    Walk, all_spots, as_moment, door, following_kinds, fraction, kind_oracle, moves_oracle, random_gates, random_moment,
    readings_by_kind, seeded, spots_by_distance, walked)
from joint import put, steps_at

# The lamp is stuck when y is beyond 2 before x reads more than 1.
LAMP = Gate("lamp", ("x", "y"), (("off", (("x", (2, 1)),)), ("on", (("y", (3, 0)),)), ("out", ())),
            (("off", "push", (("y", ((1, 0), (2, 1))),), ("x",), "on"), ("on", "bell", (("x", ((1, 0), None)),), (), "out"),
             ("on", "push", (("y", ((0, 1), (1, 1))),), ("y",), "off")))


def stuck_oracle(gate, state, readings):
    """Point 90: some rest is not let, and no step is let now or after any let rest."""
    for kind in following_kinds(readings, gate.ceilings):
        sample = readings_by_kind(gate.ceilings)[kind]
        if not put(gate, state, sample).stays():
            return True
        if steps_at(gate, state, sample):
            return False
    return False


def entries_to(gate):
    """The least number of steps to each met spot."""
    found = {}
    level, count = [spot for spot in spots_by_distance(gate)][:1], 0
    while level:
        todo, after = list(level), []
        while todo:
            spot = todo.pop()
            if spot not in found:
                found[spot] = count
                for move, target in moves_oracle(gate, spot):
                    (todo if move == "rest" else after).append(target)
        level, count = after, count + 1
    return found


def gates_that_end(seed, count):
    """Gates with a stay in most states, so that they often hang."""
    chance = seeded(seed)
    for gate in random_gates(seed, count):
        states = tuple((name, stay or ((gate.clocks[0], (chance.randint(1, 3), chance.randint(0, 1))),) * (chance.randint(0, 3) > 0))
                       for name, stay in gate.states)
        yield Gate(gate.name, gate.clocks, states, gate.steps, gate.also)


class TestHanging(unittest.TestCase):
    def test_stuck(self):
        chance = seeded(90)
        told = [0, 0]
        for gate in [LAMP, door()] + list(gates_that_end(90, 60)):
            for state, kind in all_spots(gate):
                standing = (state, readings_by_kind(gate.ceilings)[kind])
                found = stuck_oracle(gate, *standing)
                self.assertIs(stuck(gate, standing), found)
                told[found] += 1
            for _ in range(5):
                readings = tuple(random_moment(chance) for _ in gate.clocks)
                for state, _ in gate.states:
                    if put(gate, state, readings).stays():
                        self.assertIs(stuck(gate, (state, readings)), stuck_oracle(gate, state, readings))
        self.assertGreater(min(told), 200)

    def test_stuck_spots(self):
        sizes = []
        for gate in [LAMP, door()] + list(gates_that_end(91, 80)):
            met = spots_by_distance(gate)
            expected = tuple((state, kind) for state, kind in all_spots(gate) if (state, kind) in met
                             and stuck_oracle(gate, state, readings_by_kind(gate.ceilings)[kind]))
            self.assertEqual(stuck_spots(gate), expected)
            sizes.append(min(len(expected), 2))
        self.assertGreater(min(sizes.count(0), sizes.count(2)), 15)

    def test_runs(self):
        counts = {}
        for gate in [LAMP, door()] + list(gates_that_end(92, 150)):
            run = hang_run(gate)
            ends = {spot: count for spot, count in entries_to(gate).items() if spot in stuck_spots(gate)}
            self.assertEqual(run is None, not ends)
            counts[run and len(run[0])] = counts.get(run and len(run[0]), 0) + 1
            if run is not None:
                self.check_run(gate, run)
                self.assertEqual(len(run[0]), min(ends.values()))
                self.assertEqual(hang_run(gate), run)
        self.assertGreater(min(counts[None], counts[0], counts[1]), 3)
        self.assertIn(2, counts)

    def check_run(self, gate, run):
        self.assertIs(is_run(gate, run), True)
        _, walk = walked(gate, run)
        self.assertIsInstance(walk, Walk)
        self.assertTrue(stuck_oracle(gate, *walk.standing()))
        self.assertIs(stuck(gate, standing_after(gate, run)), True)

    def test_never(self):
        # Where all rests are let nothing is stuck, even without steps.
        for gate in (door(), Gate("g", ("x",), (("s", ()),), ()), ban("g", ("push",))):
            self.assertIsNone(hang_run(gate))
            self.assertEqual(stuck_spots(gate), ())

    def test_at_the_start(self):
        gate = Gate("g", ("x",), (("s", (("x", (1, 1)),)), ("t", ())), (("s", "go", (("x", ((2, 1), None)),), (), "t"),))
        self.assertEqual(hang_run(gate)[0], ())
        self.assertIs(stuck(gate, ("s", ((0, 1),))), True)
        self.assertEqual([kind for _, kind in stuck_spots(gate)],
                         [((0,), ((), (1,))), ((0,), ((1,),)), ((1,), ((1,),))])
        # Only after some rest: then the step is over.
        early = Gate("g", ("x",), gate.states, (("s", "go", (("x", ((0, 1), (1, 0))),), (), "t"),))
        self.assertEqual(hang_run(early), ((), (), (1, 1)))
        self.assertIs(stuck(early, ("s", ((0, 1),))), False)
        self.assertIs(stuck(early, ("s", ((99, 100),))), False)
        self.assertEqual(stuck_spots(early), (("s", ((1,), ((1,),))),))

    def test_the_stay_of_the_target_counts(self):
        gate = Gate("g", ("x", "y"), (("s", (("x", (2, 1)),)), ("t", (("y", (1, 1)),))), (("s", "go", (), ("x",), "t"), ("t", "go", (), ("y", "x"), "t")))
        self.assertEqual(len(hang_run(gate)[0]), 0)
        self.check_run(gate, hang_run(gate))
        again = Gate("g", gate.clocks, gate.states, (("s", "go", (), ("x", "y"), "t"),) + gate.steps[1:])
        self.assertIsNone(hang_run(again))

    def test_differences_of_clocks(self):
        # It depends on how far y lags behind x whether y reads 1 before x reads 2.
        gate = Gate("g", ("x", "y"), (("a", (("x", (2, 1)),)), ("b", (("x", (2, 1)),))),
                    (("a", "push", (), ("y",), "b"), ("b", "bell", (("y", ((1, 0), None)),), ("x",), "a")))
        run = hang_run(gate)
        self.check_run(gate, run)
        self.assertEqual(len(run[0]), 1)
        self.assertIs(stuck(gate, ("b", ((2, 1), (1, 1)))), True)
        self.assertIs(stuck(gate, ("b", ((3, 2), (1, 2)))), True)
        self.assertIs(stuck(gate, ("b", ((3, 2), (2, 3)))), False)
        for x, y in ((1, 7), (3, 2), (199, 100)):
            standing = ("b", (as_moment(1 + fraction((1, x + y))), as_moment(fraction((1, x + y)))))
            self.assertIs(stuck(gate, standing), True)

    def test_far_ceilings(self):
        # The widened zones have more readings of y than a run can have.
        gate = Gate("g", ("x", "y"), (("a", (("x", (1, 1)),)), ("b", (("x", (1, 1)),))),
                    (("a", "push", (("x", ((1, 1), (1, 1))),), ("x",), "a"), ("a", "bell", (("y", ((4, 1), None)),), (), "b")))
        run = hang_run(gate)
        self.check_run(gate, run)
        self.assertEqual(len(run[0]), 4)

    def test_halls(self):
        hall = Hall(door(), window("day", ((0, 1), (5, 1)), ("bell",))).joined()
        run = hang_run(hall)
        self.check_run(hall, run)
        self.assertEqual(len(run[0]), 1)
        self.assertIsNone(hang_run(Hall(door(), window("day", ((0, 1), None), ("bell",))).joined()))
        self.assertEqual(len(hang_run(Hall(door(), pace("calm", ((3, 1), None), ("bell", "push"))).joined())[0]), 1)

    def test_all_standings_of_a_spot(self):
        chance = seeded(93)
        for gate in list(gates_that_end(93, 40)):
            run = hang_run(gate)
            if run is not None:
                state, readings = standing_after(gate, run)
                spot = spot_of(gate, (state, readings))
                self.assertIn(spot, stuck_spots(gate))
                self.assertIs(is_spot(gate, spot), True)
                for _ in range(5):
                    other = tuple(random_moment(chance) for _ in gate.clocks)
                    if kind_oracle(other, gate.ceilings) == spot[1]:
                        self.assertIs(stuck(gate, (state, other)), True)
                self.assertIs(stuck(gate, rested(gate, (state, readings), (0, 1))), True)


if __name__ == "__main__":
    unittest.main()
