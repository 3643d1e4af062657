"""Point 62: closed tuples of patches, and the goals that they avoid."""

import functools
import itertools
import unittest

from bellrest.errors import InvalidGoal
from bellrest.gates import Gate
from bellrest.patches import avoids, is_closed_patches
from bellrest.points import point
from bellrest.reach import never
from bellrest.shutting import shut
from bellrest.tables import all_zero, anything, table_with
from helpers import (
    allowed, check_judge, door, fraction, grid, in_span_oracle, is_shut_oracle, keeps_oracle, keeps_scaled, raised, random_goal,
    random_table, seeded, wrong_goals)

# Two clocks, a state that cannot be left, and a step that no standing of this gate lets.
LAMP = Gate("lamp", ("x", "y"), (("off", ()), ("on", (("y", (2, 0)),)), ("gone", ())),
            (("off", "push", (("x", ((1, 1), None)),), ("y",), "on"), ("on", "push", (("y", ((0, 0), None)),), ("x",), "off"),
             ("on", "bell", (("x", ((0, 1), (1, 0))),), (), "gone")))


class Grid:
    """Readings as tuples of integers, multiples of an hour divided by parts; all sets are found by trying."""

    def __init__(self, gate, until):
        self.gate = gate
        # A witness over the clocks and the rest lies on a grid with this many parts.
        self.parts = len(gate.clocks) + 2
        self.range = range(until * self.parts + 1)
        self.readings = list(itertools.product(self.range, repeat=len(gate.clocks)))

    @functools.lru_cache(maxsize=None)
    def lot(self, table):
        return [values for values in self.readings if keeps_scaled(table, values, self.parts)]

    def meets(self, test, values):
        return all(in_span_oracle((values[self.gate.clocks.index(clock)], self.parts), span) for clock, span in test)

    def stays(self, state, values):
        stay = dict(self.gate.states)[state]
        return all(allowed(edge, fraction((values[self.gate.clocks.index(clock)], self.parts))) for clock, edge in stay)

    @functools.lru_cache(maxsize=None)
    def rested(self, state, table):
        found = {tuple(value + rest for value in values) for values in self.lot(table) for rest in self.range}
        return [values for values in found if self.stays(state, values)]

    @functools.lru_cache(maxsize=None)
    def stepped(self, table, step):
        source, _, test, restarts, target = self.gate.steps[step]
        zeroed = [self.gate.clocks.index(clock) for clock in restarts]
        found = set()
        for values in self.lot(table):
            if self.stays(source, values) and self.meets(test, values):
                found.add(tuple(0 if k in zeroed else value for k, value in enumerate(values)))
        return [values for values in found if self.stays(target, values)]

    def covered(self, patches, state, readings):
        if not readings:
            return True
        return any(name == state and all(keeps_scaled(table, values, self.parts) for values in readings)
                   for name, table in patches)

    def is_closed(self, value):
        clocks = len(self.gate.clocks)
        if type(value) is not tuple:
            return False
        for patch in value:
            if type(patch) is not tuple or len(patch) != 2 or patch[0] not in [name for name, _ in self.gate.states]:
                return False
            if not is_shut_oracle(patch[1]) or len(patch[1]) != clocks + 1:
                return False
        if not self.covered(value, self.gate.states[0][0], [(0,) * clocks]):
            return False
        for state, table in value:
            if not self.covered(value, state, self.rested(state, table)):
                return False
            for step, parts in enumerate(self.gate.steps):
                if parts[0] == state and not self.covered(value, parts[4], self.stepped(table, step)):
                    return False
        return True


def zone(*conditions):
    clocks = max(number for i, j, _ in conditions for number in (i, j))
    return shut(table_with(clocks, *conditions))


class TestClosed(unittest.TestCase):
    def test_door_by_hand(self):
        ajar = zone((1, 0, (2, 1)))
        patches = (("shut", anything(1)), ("ajar", ajar))
        for value in (patches, patches[::-1], patches * 2, patches + (("ajar", zone((1, 0, (7, 1)))),), (("ajar", anything(1)),) + patches,
                      (("shut", anything(1)), ("ajar", anything(1)))):
            self.assertIs(is_closed_patches(door(), value), True, value)
        for value in ((), patches[:1], patches[1:], [*patches], (("shut", all_zero(1)), ("ajar", ajar)),
                      (("shut", zone((1, 0, (5, 1)))), ("ajar", ajar)), (("shut", anything(1)), ("ajar", all_zero(1))),
                      (("shut", anything(1)), ("ajar", zone((1, 0, (2, 0))))), (("shut", zone((0, 1, (-1, 1)))), ("ajar", ajar)),
                      patches + (("open", ajar),), patches + (("ajar", None),), patches + (("ajar", table_with(1, (1, 0, (2, 1)))),),
                      patches + (("ajar", anything(2)),), patches + (("ajar", ajar, ajar),)):
            self.assertIs(is_closed_patches(door(), value), False, value)

    def test_one_patch_must_contain_all(self):
        # The union of two patches contains the readings after rests, but neither of them does.
        early, late = zone((1, 0, (1, 1))), zone((0, 1, (-1, 1)))
        gate = Gate("g", ("x",), (("s", ()),), ())
        self.assertIs(is_closed_patches(gate, (("s", early), ("s", late))), False)
        self.assertIs(is_closed_patches(gate, (("s", early), ("s", late), ("s", anything(1)))), True)

    def test_empty_sets_need_no_patch(self):
        # The target's stay and the test never hold together; the other step starts in a state without patches.
        gate = Gate("g", ("x",), (("s", ()), ("t", (("x", (1, 0)),)), ("u", ())),
                    (("s", "go", (("x", ((1, 1), None)),), (), "t"), ("u", "go", (), (), "t")))
        self.assertIs(is_closed_patches(gate, (("s", anything(1)),)), True)
        changed = Gate("g", ("x",), (("s", ()), ("t", (("x", (1, 1)),))), (("s", "go", (("x", ((1, 1), None)),), (), "t"),))
        self.assertIs(is_closed_patches(changed, (("s", anything(1)),)), False)
        self.assertIs(is_closed_patches(changed, (("s", anything(1)), ("t", zone((1, 0, (1, 1)), (0, 1, (-1, 1)))))), True)

    def test_the_stay_cuts_the_lot(self):
        # Where the stay does not hold, neither rests nor steps lead on.
        gate = Gate("g", ("x",), (("s", (("x", (2, 1)),)), ("t", (("x", (4, 1)),))),
                    (("s", "go", (("x", ((2, 1), None)),), (), "t"),))
        self.assertIs(is_closed_patches(gate, (("s", anything(1)), ("t", zone((1, 0, (4, 1)), (0, 1, (-2, 1)))))), True)
        self.assertIs(is_closed_patches(gate, (("s", zone((1, 0, (2, 1)))), ("t", zone((1, 0, (4, 1)), (0, 1, (-2, 0)))))), False)

    def test_judge(self):
        gate = door()
        oracle = Grid(gate, 6)
        patches = (("shut", anything(1)), ("ajar", zone((1, 0, (2, 1)))))
        check_judge(self, lambda value: is_closed_patches(gate, value), [patches], oracle.is_closed)

    def test_random_tables(self):
        chance = seeded(62)
        oracle = Grid(LAMP, 5)
        told = [0, 0]
        for _ in range(150):
            patches = list(never(LAMP, ("gone", ())))
            for _ in range(chance.randint(0, 2)):
                table = shut(random_table(chance, 2, -2, 2))
                if table is not None:
                    patches[chance.randrange(len(patches))] = (chance.choice(("off", "on", "gone")), table)
            chance.shuffle(patches)
            for value in (tuple(patches), tuple(patches) + (("gone", anything(2)), ("on", anything(2)), ("off", anything(2)))):
                expected = oracle.is_closed(value)
                self.assertIs(is_closed_patches(LAMP, value), expected, value)
                told[expected] += 1
        self.assertGreater(min(told), 30)


class TestAvoids(unittest.TestCase):
    def test_door(self):
        patches = (("shut", anything(1)), ("ajar", anything(1)))
        for goal, told in ((("ajar", (("x", ((2, 0), None)),)), True), (("ajar", (("x", ((2, 1), None)),)), False),
                           ((None, (("x", ((2, 0), None)),)), False), (("shut", ()), False), ((None, ()), False)):
            self.assertIs(avoids(door(), goal, patches), told)
        self.assertIs(avoids(door(), ("ajar", ()), patches[:1]), True)
        self.assertIs(avoids(door(), (None, ()), ()), True)

    def test_random(self):
        chance = seeded(63)
        told = [0, 0]
        for _ in range(400):
            patches = []
            for _ in range(chance.randint(1, 2)):
                table = shut(random_table(chance, 2, -3, 3))
                if table is not None:
                    patches.append((chance.choice(("off", "on")), table))
            goal = random_goal(chance, LAMP, 3)
            stays = dict(LAMP.states)
            expected = True
            for state, table in patches:
                edges = dict(stays[state])
                if goal[0] in (None, state):
                    for readings in points(table):
                        meets = all(in_span_oracle(readings[LAMP.clocks.index(clock)], span) for clock, span in goal[1])
                        if meets and all(allowed(edge, fraction(readings[LAMP.clocks.index(clock)])) for clock, edge in edges.items()):
                            expected = False
            self.assertIs(avoids(LAMP, goal, tuple(patches)), expected)
            told[expected] += 1
        self.assertGreater(min(told), 50)

    def test_wrong_goals(self):
        for value in wrong_goals(LAMP, ("on", (("x", ((0, 1), (1, 1))),))):
            self.assertEqual(raised(self, InvalidGoal, avoids, LAMP, value, (("off", anything(2)),)), {"value": value})


def points(table):
    """Readings of the lot on a grid, and some of its own."""
    return [point(table)] + [readings for readings in grid(2, 3, 5) if keeps_oracle(table, readings)]


if __name__ == "__main__":
    unittest.main()
