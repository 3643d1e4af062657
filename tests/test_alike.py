"""Points 82 and 83: gates that let the same rows, or the same bare rows."""

import itertools
import unittest

from bellrest.alike import alike, alike_states, bare_parting, begun_at, parting_row
from bellrest.errors import NotSettled, UnknownName
from bellrest.gates import Gate
from bellrest.running import lets
from bellrest.surely import bare_rows
from bellrest.watchers import ban, turns
from helpers import door, paths_oracle, raised, random_gates, seeded
from joint import changed_gate, is_extra_on_grid, pairs_of_gates, settled_gates, with_more_clocks

S = (("s", ()),)
UNSETTLED = Gate("u", ("x",), S, (("s", "bell", (), (), "s"), ("s", "bell", (), ("x",), "s")))
TWICE = Gate("v", ("x",), S, (("s", "push", (), (), "s"), ("s", "push", (), (), "s")))


class TestParting(unittest.TestCase):
    def test_random(self):
        told = {}
        for one, other in pairs_of_gates(820, 1600):
            if one.is_settled():
                row = parting_row(one, other)
                self.assertEqual(alike(one, other), row is None)
                self.assertEqual(alike(other, one), row is None)
                count = None if row is None else len(row)
                told[count] = told.get(count, 0) + 1
                if row is not None:
                    self.assertNotEqual(bool(paths_oracle(one, row)), bool(paths_oracle(other, row)))
                shorter = 1 if row is None else len(row) - 1
                for length in range(min(shorter, 1) + 1):
                    self.assertFalse(is_extra_on_grid(one, other, length) or is_extra_on_grid(other, one, length))
        self.assertGreater(min(told[None], told[1]), 60)
        self.assertGreater(told[2], 10)

    def test_alike(self):
        for gate in settled_gates(821, 150):
            self.assertIs(alike(gate, gate), True)
            self.assertIs(alike(gate, with_more_clocks(gate)), True)
            self.assertIsNone(parting_row(with_more_clocks(gate), gate))

    def test_the_shorter_row_counts(self):
        one = Gate("g", ("x",), S, (("s", "push", (), (), "s"), ("s", "bell", (), (), "s")))
        other = turns("h", ("push", "push", "knock"))
        # The second gate lets more only from the third entry on, the first one at once.
        self.assertEqual([deed for _, deed in parting_row(one, other)], ["bell"])
        self.assertEqual([deed for _, deed in parting_row(other, one)], ["bell"])

    def test_errors(self):
        for function in (alike, parting_row):
            self.assertEqual(raised(self, NotSettled, function, UNSETTLED, door()), {"state": "s", "deed": "bell"})
            self.assertEqual(raised(self, NotSettled, function, door(), UNSETTLED), {"state": "s", "deed": "bell"})
            self.assertEqual(raised(self, NotSettled, function, UNSETTLED, TWICE), {"state": "s", "deed": "bell"})
            self.assertEqual(raised(self, NotSettled, function, TWICE, UNSETTLED), {"state": "s", "deed": "push"})


class TestBegun(unittest.TestCase):
    def test_order(self):
        gate = Gate("g.h", ("x",), (("a", (("x", (1, 1)),)), ("b", ()), ("c.d", ())), (("a", "go", (), (), "b"),), ("hum",))
        states = {"a": ("a", "b", "c.d"), "b": ("b", "a", "c.d"), "c.d": ("c.d", "a", "b")}
        for state, names in states.items():
            begun = begun_at(gate, state)
            self.assertEqual(tuple(name for name, _ in begun.states), names)
            self.assertEqual(dict(begun.states), dict(gate.states))
            self.assertEqual((begun.name, begun.clocks, begun.steps, begun.also), (gate.name, gate.clocks, gate.steps, gate.also))
        self.assertEqual(gate.states[0][0], "a")

    def test_unknown(self):
        for name in ("x", "open", "", "shut.ajar"):
            self.assertEqual(raised(self, UnknownName, begun_at, door(), name), {"name": name})
        # The name comes first: the gate need not be settled.
        self.assertEqual(begun_at(UNSETTLED, "s").text(), UNSETTLED.text())


class TestAlikeStates(unittest.TestCase):
    def test_random(self):
        sizes = []
        for gate in settled_gates(822, 700):
            names = [state for state, _ in gate.states]
            groups = alike_states(gate)
            self.assertEqual(sorted(itertools.chain(*groups)), sorted(names))
            for group in groups:
                self.assertEqual(group, tuple(sorted(group, key=names.index)))
            self.assertEqual(groups, tuple(sorted(groups, key=lambda group: names.index(group[0]))))
            place = {name: at for at, group in enumerate(groups) for name in group}
            for one, other in itertools.combinations(names, 2):
                same = alike(begun_at(gate, one), begun_at(gate, other))
                self.assertEqual(place[one] == place[other], same)
            sizes.append((len(names), len(groups)))
        self.assertTrue(set(sizes) >= {(1, 1), (2, 1), (2, 2), (3, 2), (3, 3)})

    def test_groups(self):
        self.assertEqual(alike_states(door()), (("shut",), ("ajar",)))
        doubled = Gate("g", ("x",), (("a", ()), ("b", ()), ("c", ()), ("d", ())),
                       (("a", "go", (), (), "b"), ("b", "come", (), (), "c"), ("c", "go", (), ("x",), "d"), ("d", "come", (), (), "a")))
        self.assertEqual(alike_states(doubled), (("a", "c"), ("b", "d")))
        self.assertEqual(alike_states(Gate("g", ("x",), (("a", (("x", (2, 1)),)), ("b", ())), ())), (("a", "b"),))

    def test_states_are_alike_only_with_clocks_at_zero(self):
        # With x at zero both let the same; what x reads when the state is met does not matter.
        gate = Gate("g", ("x",), (("a", ()), ("b", (("x", (3, 1)),))), (("a", "go", (("x", ((0, 1), (3, 1))),), (), "b"), ("b", "go", (), (), "b")))
        self.assertEqual(alike_states(gate), (("a", "b"),))

    def test_errors(self):
        self.assertEqual(raised(self, NotSettled, alike_states, UNSETTLED), {"state": "s", "deed": "bell"})


class TestBareParting(unittest.TestCase):
    def tried(self, one, other, most):
        for length in range(most + 1):
            apart = set(bare_rows(one, length)) ^ set(bare_rows(other, length))
            if apart:
                return min(apart)
        return None

    def test_random(self):
        chance = seeded(83)
        told = {}
        for gate in random_gates(830, 900):
            if gate.steps:
                other = changed_gate(chance, gate)
                found = bare_parting(gate, other)
                self.assertEqual(bare_parting(other, gate), found)
                tried = self.tried(gate, other, 4)
                if found is None or len(found) > 4:
                    self.assertIsNone(tried)
                else:
                    self.assertEqual(found, tried)
                count = None if found is None else len(found)
                told[count] = told.get(count, 0) + 1
        self.assertGreater(min(told[None], told[1], told[2]), 4)
        self.assertIn(3, told)

    def test_moments_do_not_matter(self):
        early = Gate("g", ("x",), S, (("s", "bell", (("x", ((0, 1), (0, 1))),), (), "s"),))
        late = Gate("h", ("x",), S, (("s", "bell", (("x", ((9, 0), None)),), (), "s"),))
        self.assertIsNone(bare_parting(early, late))
        self.assertIs(alike(early, late), False)
        # Unless they make a deed impossible.
        once = Gate("h", ("x",), (("s", (("x", (1, 1)),)),), (("s", "bell", (("x", ((1, 1), None)),), (), "s"), ("s", "push", (), (), "s")))
        again = Gate("g", ("x", "y"), once.states, (("s", "bell", (("x", ((1, 1), None)),), (), "s"),
                                                   ("s", "push", (("y", ((0, 1), (1, 0))),), (), "s")))
        self.assertEqual(bare_parting(once, again), ("bell", "push"))

    def test_gates_that_are_not_settled(self):
        self.assertEqual(bare_parting(UNSETTLED, TWICE), ("bell",))
        self.assertEqual(bare_parting(TWICE, UNSETTLED), ("bell",))
        self.assertIsNone(bare_parting(UNSETTLED, UNSETTLED))
        # The state after a push is one of two, and each goes on in its own way.
        gate = Gate("g", ("x",), (("a", ()), ("b", ()), ("c", ())),
                    (("a", "push", (), (), "b"), ("a", "push", (), (), "c"), ("b", "bell", (), (), "a"), ("c", "knock", (), (), "a")))
        merged = Gate("h", ("x",), (("a", ()), ("b", ())), (("a", "push", (), (), "b"), ("b", "bell", (), (), "a"), ("b", "knock", (), (), "a")))
        self.assertIsNone(bare_parting(gate, merged))

    def test_the_least_of_the_shortest(self):
        gate = Gate("g", ("x",), S, (("s", "c", (), (), "s"), ("s", "b", (), (), "s"), ("s", "a", (), (), "s")))
        self.assertEqual(bare_parting(gate, ban("h", ("a", "b", "c"))), ("a",))
        self.assertEqual(bare_parting(gate, turns("h", ("b", "a", "c"))), ("a",))
        self.assertEqual(bare_parting(turns("g", ("a", "b", "c")), turns("h", ("a", "b", "a"))), ("a", "b", "a"))
        self.assertEqual(bare_parting(door(), turns("h", ("push", "bell"))), None)

    def test_long_rows(self):
        self.assertEqual(bare_parting(turns("g", ("a",) * 12 + ("b",)), turns("h", ("a",) * 12 + ("c",))), ("a",) * 12 + ("b",))
        self.assertEqual(bare_parting(turns("g", ("a",) * 6), turns("h", ("a",) * 10)), None)


class TestDeeds(unittest.TestCase):
    def test_deeds_without_steps_make_no_difference(self):
        one = Gate("g", ("x",), S, (("s", "push", (), (), "s"),), ("hum",))
        other = Gate("h", ("x",), S, (("s", "push", (), (), "s"),))
        self.assertIs(alike(one, other), True)
        self.assertIsNone(bare_parting(one, other))
        self.assertIs(lets(one, (((0, 1), "hum"),)), False)


if __name__ == "__main__":
    unittest.main()
