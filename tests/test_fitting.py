"""Points 72 and 73: watched gates, and whether the runs of a gate fit a sight."""

import unittest

from bellrest.errors import InvalidGate, InvalidHall, TooMany
from bellrest.fitting import could, first_wrong, states_after, watched, wrong_patches
from bellrest.gates import Gate
from bellrest.halls import Hall
from bellrest.patches import avoids, is_closed_patches
from bellrest.sights import BareSight, RoundedSight, Sight, WindowSight
from bellrest.spans import span
from bellrest.watchers import label
from fits import fitting_paths, random_sights
from helpers import Walk, door, fits_oracle, raised, random_gates, seeded, walked

EVER = ((0, 1), None)
# A knock that nobody hears is needed before each bell; after it the state may be one of two.
LAMP = Gate("lamp", ("x",), (("off", ()), ("on", (("x", (3, 1)),)), ("dim", (("x", (2, 0)),)), ("gone", ())),
            (("off", "push", (("x", ((1, 1), None)),), ("x",), "on"), ("on", "knock", (("x", ((0, 0), None)),), (), "dim"),
             ("on", "bell", (("x", ((3, 1), None)),), (), "off"), ("dim", "bell", (), ("x",), "gone"), ("dim", "knock", (), (), "on")))


class Base(unittest.TestCase):
    def check(self, gate, sight, most=4):
        """Check all answers; the number of entries of the fitting run, or None."""
        run, wrong, patches, states = could(gate, sight), first_wrong(gate, sight), wrong_patches(gate, sight), states_after(gate, sight)
        self.check_states(gate, sight, states, most)
        if run is None:
            self.assertEqual(states, ())
            self.assertEqual(fitting_paths(gate, sight, most), [])
            self.check_wrong(gate, sight, wrong, patches)
            return None
        self.assertIsNone(wrong)
        self.assertIsNone(patches)
        self.check_fits(gate, sight, run)
        shorter = min(most, len(run[0]) - 1)
        self.assertTrue(shorter < 0 or fitting_paths(gate, sight, shorter) == [])
        return len(run[0])

    def check_fits(self, gate, sight, run):
        row, path, rest = run
        _, walk = walked(gate, run)
        self.assertIsInstance(walk, Walk)
        self.assertEqual((rest, len(path)), ((0, 1), len(row)))
        window = getattr(sight, "window", None)
        self.assertTrue(fits_oracle(sight.entries, sight.hidden, row, window))
        # The last entry is one that was seen.
        self.assertTrue(row == () or not fits_oracle(sight.entries, sight.hidden, row[:-1], window))
        self.assertTrue(row == () or sight.entries)
        self.assertIn(walk.state, states_after(gate, sight))

    def check_wrong(self, gate, sight, wrong, patches):
        for count in range(len(sight.entries) + 1):
            self.assertEqual(could(gate, sight.cut(count)) is None, count > wrong)
        joined = watched(gate, sight.cut(wrong + 1))
        self.assertIs(is_closed_patches(joined, patches), True)
        ends = [state for state, _ in joined.states if state.split(".")[-1] == label(wrong + 1)]
        self.assertEqual(len(ends), len(gate.states))
        for state in ends:
            self.assertIs(avoids(joined, (state, ()), patches), True)

    def check_states(self, gate, sight, states, most):
        names = [name for name, _ in gate.states]
        self.assertEqual(states, tuple(sorted(states, key=names.index)))
        # Where deeds are hidden, some states need longer paths.
        for length in range(most, 7):
            paths = fitting_paths(gate, sight, length)
            ends = {gate.steps[path[-1]][4] if path else names[0] for path in paths}
            if ends == set(states):
                break
        self.assertEqual(ends, set(states))


class TestFitting(Base):
    def test_door(self):
        self.assertEqual(self.check(door(), RoundedSight(((1, "push"), (3, "bell")))), 2)
        self.assertEqual(self.check(door(), RoundedSight(((1, "push"), (4, "bell")))), None)
        self.assertEqual(first_wrong(door(), RoundedSight(((1, "push"), (4, "bell"), (4, "push")))), 1)
        self.assertEqual(first_wrong(door(), RoundedSight(((0, "push"), (1, "bell")))), 0)
        self.assertEqual(self.check(door(), RoundedSight(((1, "push"), (4, "bell")), rounding="up")), None)
        self.assertEqual(self.check(door(), RoundedSight(((2, "push"), (4, "bell")), rounding="up")), 2)
        self.assertEqual(states_after(door(), BareSight(("push",))), ("ajar",))

    def test_no_entries(self):
        for sight in (Sight(()), BareSight((), ("push",)), WindowSight(EVER, ()), WindowSight(((1, 1), (2, 1)), (), ("bell",))):
            self.assertEqual(could(door(), sight), ((), (), (0, 1)))
            self.assertEqual(states_after(door(), sight), ("shut",))
            self.assertEqual(self.check(door(), sight, 2), 0)

    def test_hidden_deeds(self):
        self.assertEqual(self.check(door(), BareSight(("push", "push"), ("bell",))), 3)
        self.assertEqual(self.check(door(), BareSight(("push", "push"))), None)
        self.assertEqual(self.check(door(), RoundedSight(((1, "push"), (1, "push")), ("bell",))), None)
        self.assertEqual(self.check(door(), RoundedSight(((1, "push"), (2, "push")), ("bell",))), 3)
        self.assertEqual(self.check(LAMP, BareSight(("push", "bell"), ("knock",))), 2)
        self.assertEqual(states_after(LAMP, BareSight(("push", "bell"), ("knock",))), ("off", "gone"))
        self.assertEqual(self.check(LAMP, RoundedSight(((1, "push"), (1, "bell")), ("knock",))), 3)
        self.assertEqual(states_after(LAMP, RoundedSight(((1, "push"), (1, "bell")), ("knock",))), ("gone",))
        # What nobody sees after the last entry does not count.
        self.assertEqual(states_after(LAMP, BareSight(("push",), ("knock",))), ("on",))
        self.assertEqual(states_after(LAMP, BareSight(("push",), ("knock", "hum"))), ("on",))

    def test_windows(self):
        self.assertEqual(self.check(door(), WindowSight(((2, 1), (3, 1)), ((EVER, "bell"),))), 2)
        self.assertEqual(self.check(door(), WindowSight(((1, 1), (3, 1)), ((EVER, "bell"),))), None)
        self.assertEqual(self.check(door(), WindowSight(((4, 1), (5, 1)), ((EVER, "bell"),))), 2)
        self.assertEqual(self.check(door(), WindowSight(((1, 0), None), ((((0, 1), (3, 1)), "bell"),))), 2)
        self.assertEqual(self.check(door(), WindowSight(((1, 0), None), ((((3, 0), None), "bell"),))), None)

    def test_deeds_that_the_gate_does_not_have(self):
        self.assertEqual(self.check(door(), BareSight(("push", "knock"))), None)
        self.assertEqual(first_wrong(door(), BareSight(("push", "knock", "bell"))), 1)
        self.assertEqual(self.check(door(), BareSight(("push",), ("knock", "hum"))), 1)

    def test_random(self):
        chance = seeded(73)
        told = {}
        wrongs = []
        gates = [gate for gate in random_gates(73, 400) if len(gate.steps) <= 4]
        for gate in gates:
            for sight in random_sights(chance, 3):
                count = self.check(gate, sight, 3)
                told[count] = told.get(count, 0) + 1
                wrongs.append(first_wrong(gate, sight))
        self.assertTrue(set(told) >= {None, 0, 1, 2, 3})
        self.assertTrue(set(wrongs) >= {None, 0, 1, 2})
        self.assertGreater(told[1], 30)
        self.assertGreater(told[None], 30)

    def test_equal_calls(self):
        sight = RoundedSight(((1, "push"), (2, "push")), ("bell",))
        self.assertEqual(could(door(), sight), could(door(), sight))
        wrong = RoundedSight(((1, "push"), (2, "push")))
        self.assertEqual(wrong_patches(door(), wrong), wrong_patches(door(), wrong))


class TestWatched(unittest.TestCase):
    def test_names(self):
        sight = BareSight(("push",), ("bell",))
        gate = watched(door(), sight)
        self.assertEqual(gate.text(), Hall(door(), sight.watcher("sight", ("bell", "push"))).joined().text())
        self.assertEqual(gate.name, "door.sight")
        self.assertEqual(gate.clocks, ("door.x", "sight.t"))
        self.assertEqual([state for state, _ in gate.states], ["shut.a", "shut.b", "ajar.a", "ajar.b"])
        self.assertEqual([step[:2] + step[4:] for step in gate.steps],
                         [("shut.a", "push", "ajar.b"), ("ajar.a", "bell", "shut.a"), ("ajar.b", "bell", "shut.b")])
        named = Gate("sight", ("x",), (("s", ()),), (("s", "push", (), (), "s"),))
        self.assertEqual(watched(named, sight).name, "sight.sights")
        self.assertEqual(could(named, sight)[1], (0,))
        dotted = Gate("sight.one", ("x.y",), (("s.t", ()),), (("s.t", "push", (), (), "s.t"),))
        self.assertEqual(watched(dotted, sight).name, "sight.one.sight")
        self.assertEqual(states_after(dotted, sight), ("s.t",))

    def test_errors(self):
        functions = (watched, could, first_wrong, wrong_patches, states_after)
        many = Gate("g", tuple("abcdef"), (("s", ()),), (("s", "push", (), (), "s"),))
        wide = Gate("g", ("x",), tuple((label(index), ()) for index in range(33)), (("a", "push", (), (), "a"),))
        full = Gate("g", ("x",), (("s", ()),), (("s", "push", (), (), "s"),) * 201)
        for function in functions:
            # The watcher itself is too large: this comes before the errors of the hall.
            for gate in (door(), many, wide):
                self.assertEqual(raised(self, InvalidGate, function, gate, BareSight(("push",) * 64)), {"part": "states", "index": 64})
            self.assertEqual(raised(self, InvalidHall, function, many, BareSight(("knock",))), {"index": 1})
            self.assertEqual(raised(self, InvalidHall, function, wide, BareSight(("knock",))), {"index": 1})
            self.assertEqual(raised(self, TooMany, function, full, BareSight(("push", "push"))), {"size": 402})
            self.assertEqual(raised(self, TooMany, function, full, BareSight(("knock", "knock"), ("push",))), {"size": 603})
        self.assertEqual(len(watched(wide, BareSight(())).states), 33)
        self.assertEqual(len(watched(full, BareSight(("push",))).steps), 201)
        self.assertEqual(could(full, BareSight(("push",)))[0], (((0, 1), "push"),))

    def test_ceilings_of_the_watched_gate(self):
        sight = RoundedSight(((1, "push"), (7, "bell")))
        self.assertEqual(watched(door(), sight).ceilings, (2, 8))
        self.assertEqual(watched(door(), BareSight(("push",))).ceilings, (2, 0))
        self.assertEqual(watched(door(), WindowSight(span(3, 5), ())).ceilings, (2, 5))


if __name__ == "__main__":
    unittest.main()
