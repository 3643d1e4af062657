"""Point 36 and the interface of bellrest/pathtables.py."""

import itertools
import unittest

from bellrest.gates import Gate
from bellrest.kindtables import kind_table, kinds_of
from bellrest.moves import meet
from bellrest.pathtables import least_moments, path_conditions, path_table, run_into, run_of, run_with
from bellrest.running import is_run
from bellrest.shutting import is_shut
from bellrest.tables import anything, keeps
from bellrest.zones import path_zone
from helpers import door, fraction, grid, kind_oracle, random_gates, random_span, seeded, since_oracle, walked

GATES = random_gates(81, 24)


def some_paths(chance, gate):
    """All paths with up to two steps, and some longer ones that follow one another."""
    steps = range(len(gate.steps))
    for count in (0, 1, 2):
        yield from itertools.product(steps, repeat=count)
    for _ in range(6):
        path, state = (), gate.states[0][0]
        while len(path) < 3 and gate.steps_from(state):
            path += (chance.choice(gate.steps_from(state)),)
            state = gate.steps[path[-1]][4]
        if len(path) == 3:
            yield path


def follows(gate, path):
    state = gate.states[0][0]
    for step in path:
        if gate.steps[step][0] != state:
            return False
        state = gate.steps[step][4]
    return True


def random_tests(chance, gate):
    return tuple((clock, random_span(chance, 3)) for clock in gate.clocks if chance.randint(0, 1))


class TestPathTables(unittest.TestCase):
    def check_table(self, gate, path, tests, parts, until):
        table = path_table(gate, path, tests)
        found = run_of(gate, path, tests)
        self.assertEqual(table is None, found is None)
        if table is not None:
            self.assertEqual(len(table), len(path) + 2)
            self.assertIs(is_shut(table), True)
            self.assertIs(is_run(gate, found), True)
            self.assertEqual(found[1], path)
            self.assertTrue(walked(gate, found)[1].meets(tests))
            self.assertEqual(run_of(gate, path, tests), found)
        inside = outside = 0
        for moments in grid(len(path) + 1, parts, until):
            ordered = all(since_oracle(one, other) >= 0 for one, other in zip(moments, moments[1:]))
            good = False
            if ordered and follows(gate, path):
                run = run_with(gate, path, moments)
                walk = walked(gate, run)[1]
                good = walk is not None and walk.meets(tests)
                self.assertEqual(is_run(gate, run), walk is not None)
            self.assertEqual(table is not None and keeps(table, moments), good, (gate.text(), path, tests, moments))
            inside, outside = inside + good, outside + (not good)
        return inside, outside

    def test_against_runs(self):
        chance = seeded(82)
        inside = outside = none = 0
        for gate in GATES:
            for path in some_paths(chance, gate):
                for tests in ((), random_tests(chance, gate)):
                    parts, until = ((2, 5), (2, 4), (2, 3), (1, 4))[len(path)]
                    more, less = self.check_table(gate, path, tests, parts, until)
                    inside, outside, none = inside + more, outside + less, none + (more == 0)
        for count in (inside, outside, none):
            self.assertGreater(count, 200)

    def test_finer_moments(self):
        gate = Gate("g", ("x", "y"), (("s", (("x", (2, 0)),)), ("t", (("y", (1, 1)),))),
                    (("s", "push", (("x", ((1, 0), (2, 0))),), ("y",), "t"), ("t", "bell", (("y", ((0, 0), None)),), (), "t")))
        inside, outside = self.check_table(gate, (0, 1), (("y", ((0, 0), (1, 0))),), 4, 3)
        self.assertGreater(inside, 10)
        self.assertGreater(outside, 50)

    def test_the_path_without_steps(self):
        self.assertEqual(path_table(door(), ()), anything(1))
        self.assertEqual(run_of(door(), ())[:2], ((), ()))
        gate = Gate("g", ("x",), (("s", (("x", (3, 0)),)),), ())
        self.assertEqual(path_table(gate, ()), (((0, 1), (0, 1)), ((3, 0), (0, 1))))
        self.assertEqual(path_table(gate, (), (("x", ((1, 0), None)),)), (((0, 1), (-1, 0)), ((3, 0), (0, 1))))
        self.assertIsNone(path_table(gate, (), (("x", ((3, 1), None)),)))
        self.assertIsNone(run_of(gate, (), (("x", ((3, 1), None)),)))

    def test_steps_that_do_not_follow(self):
        for path in ((1,), (0, 0), (1, 0), (0, 1, 1), (0, 1, 0, 0)):
            self.assertIsNone(path_table(door(), path))
            self.assertIsNone(run_of(door(), path))
        self.assertIsNotNone(path_table(door(), (0, 1, 0)))

    def test_impossible_tests(self):
        late = (("x", ((5, 1), None)),)
        gate = Gate("g", ("x",), (("s", (("x", (2, 1)),)),), (("s", "push", late, (), "s"), ("s", "push", (), (), "s")))
        self.assertIsNone(path_table(gate, (0,)))
        self.assertIsNone(path_table(gate, (1, 0)))
        self.assertIsNone(path_table(gate, (1,), late))
        self.assertIsNone(run_of(gate, (1,), late))
        self.assertIsNotNone(path_table(gate, (1,)))

    def test_run_with(self):
        gate = door()
        self.assertEqual(run_with(gate, (), ((7, 2),)), ((), (), (7, 2)))
        self.assertEqual(run_with(gate, (), ((0, 1),)), ((), (), (0, 1)))
        self.assertEqual(run_with(gate, (0,), ((3, 2), (2, 1))), ((((3, 2), "push"),), (0,), (1, 2)))
        self.assertEqual(run_with(gate, (0, 1), ((3, 2), (3, 2), (3, 2))),
                         ((((3, 2), "push"), ((3, 2), "bell")), (0, 1), (0, 1)))

    def test_least_moments(self):
        chance = seeded(82)
        strict = 0
        for gate in GATES:
            for path in some_paths(chance, gate):
                table = path_table(gate, path)
                if table is not None:
                    moments = least_moments(len(path) + 1, path_conditions(gate, path, ()))
                    self.assertIs(keeps(table, moments), True)
                    self.assertEqual(is_run(gate, run_with(gate, path, moments)), True)
                    # None is later than it must be, but for the grains.
                    for number, moment in enumerate(moments, 1):
                        low, reach = table[0][number]
                        self.assertTrue(-low <= fraction(moment) < 1 - low)
                        strict += reach == 0
        self.assertGreater(strict, 10)

    def test_runs_into_tables(self):
        chance = seeded(83)
        count = 0
        for gate in GATES:
            for path in some_paths(chance, gate):
                if path_table(gate, path) is not None:
                    held = path_zone(gate, path)
                    for kind in kinds_of(held, gate.ceilings)[::3]:
                        part = kind_table(kind, gate.ceilings)
                        run = run_into(gate, path, meet(held, part))
                        _, walk = walked(gate, run)
                        self.assertEqual((run[1], kind_oracle(walk.standing()[1], gate.ceilings)), (path, kind))
                        count += 1
        self.assertGreater(count, 300)

    def test_a_long_path(self):
        path = (0, 1) * 20
        table = path_table(door(), path)
        self.assertEqual(len(table), 42)
        self.assertEqual(table[0][1], (-1, 1))
        # Every push but the first one comes at least an hour after the one before.
        self.assertEqual(table[0][41], (-20, 1))
        self.assertEqual(table[2][1], (2, 1))
        self.assertIsNone(table[1][0])
        self.assertIs(is_run(door(), run_of(door(), path)), True)
        self.assertEqual(run_of(door(), path, (("x", ((2, 0), None)),))[1], path)


if __name__ == "__main__":
    unittest.main()
