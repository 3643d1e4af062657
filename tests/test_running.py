"""Points 33, 34 and 35 and the interface of bellrest/running.py."""

import itertools
import unittest
from fractions import Fraction

from bellrest.errors import InvalidRow, NotLet, RestBlocked
from bellrest.gates import Gate
from bellrest.running import (done, is_row, is_run, is_standing, lets, paths, rested, room, standing_after, standings, start,
                              steps_let)
from helpers import (ODD_VALUES, Walk, allowed, as_moment, check_judge, door, fraction, moment_oracle, near_values,
                     paths_oracle, random_gates, random_row, seeded, walked)
from test_names import simple_oracle

GATES = random_gates(71, 60)
ROW = (((1, 2), "push"), ((1, 2), "bell"), ((3, 1), "push"))


def row_oracle(value):
    """None for a row, and otherwise the index of the first entry that is wrong."""
    if type(value) is not tuple:
        return 0
    now = Fraction(0)
    for index, entry in enumerate(value):
        if type(entry) is not tuple or len(entry) != 2 or not moment_oracle(entry[0]) or not simple_oracle(entry[1]):
            return index
        if fraction(entry[0]) < now:
            return index
        now = fraction(entry[0])
    return None


def standing_oracle(gate, value):
    if type(value) is not tuple or len(value) != 2 or type(value[0]) is not str or type(value[1]) is not tuple:
        return False
    stays = dict(gate.states)
    if value[0] not in stays or len(value[1]) != len(gate.clocks) or not all(map(moment_oracle, value[1])):
        return False
    readings = dict(zip(gate.clocks, value[1]))
    return all(allowed(edge, fraction(readings[clock])) for clock, edge in stays[value[0]])


def run_oracle(gate, value):
    if type(value) is not tuple or len(value) != 3 or row_oracle(value[0]) is not None or type(value[1]) is not tuple:
        return False
    if not all(type(step) is int and 0 <= step < len(gate.steps) for step in value[1]) or not moment_oracle(value[2]):
        return False
    return len(value[0]) == len(value[1]) and walked(gate, value)[1] is not None


def walk_at(gate, standing):
    walk = Walk(gate)
    walk.state = standing[0]
    walk.readings = {clock: fraction(reading) for clock, reading in zip(gate.clocks, standing[1])}
    return walk


def some_standings(gate):
    halves = [as_moment(Fraction(number, 2)) for number in range(8)]
    for state, _ in gate.states:
        for readings in itertools.product(halves, repeat=len(gate.clocks)):
            if standing_oracle(gate, (state, readings)):
                yield state, readings


class TestStandings(unittest.TestCase):
    def test_judge(self):
        for gate in GATES[:12] + [door()]:
            values = list(some_standings(gate))[::7]
            check_judge(self, lambda value: is_standing(gate, value), values, lambda value: standing_oracle(gate, value))

    def test_judge_says_no(self):
        gate = door()
        for value in (("ajar", ((5, 2),)), ("ajar", ((2, 1), (2, 1))), ("ajar", ()), ("wide", ((1, 1),)), ("ajar", ((2, 2),)),
                      ["ajar", ((1, 1),)], ("ajar", [(1, 1)]), (None, ((1, 1),)), (["ajar"], ((1, 1),)), ("ajar", ((True, 1),))):
            self.assertIs(is_standing(gate, value), False, value)
        self.assertIs(is_standing(gate, ("ajar", ((2, 1),))), True)
        self.assertIs(is_standing(gate, ("shut", ((99, 1),))), True)

    def test_start(self):
        self.assertEqual(start(door()), ("shut", ((0, 1),)))
        for gate in GATES:
            self.assertEqual(start(gate), Walk(gate).standing())
            self.assertIs(is_standing(gate, start(gate)), True)


class TestRests(unittest.TestCase):
    def gate_with(self, *stay):
        return Gate("g", ("x", "y"), (("s", stay),), ())

    def test_room(self):
        standing = ("s", ((1, 2), (2, 1)))
        for stay, expected in (((), None), ((("x", (2, 1)),), ((3, 2), 1)), ((("x", (2, 0)),), ((3, 2), 0)),
                               ((("y", (2, 1)),), ((0, 1), 1)), ((("x", (2, 1)), ("y", (3, 0))), ((1, 1), 0)),
                               ((("x", (2, 0)), ("y", (9, 1))), ((3, 2), 0))):
            self.assertEqual(room(self.gate_with(*stay), standing), expected)

    def test_room_of_equal_moments(self):
        standing = ("s", ((0, 1), (1, 1)))
        for one, other in itertools.product((0, 1), repeat=2):
            gate = self.gate_with(("x", (2, one)), ("y", (3, other)))
            self.assertEqual(room(gate, standing), ((2, 1), one & other))

    def test_rests_around_the_room(self):
        blocked = let = 0
        for gate in GATES:
            for standing in list(some_standings(gate))[::5]:
                up_to = room(gate, standing)
                for rest in [Fraction(number, 4) for number in range(0, 20)]:
                    good = up_to is None or allowed((fraction(up_to[0]), up_to[1]), rest)
                    walk = walk_at(gate, standing)
                    self.assertEqual(walk.rest(rest), good)
                    if good:
                        self.assertEqual(rested(gate, standing, as_moment(rest)), walk.standing())
                        let += 1
                    else:
                        with self.assertRaises(RestBlocked) as caught:
                            rested(gate, standing, as_moment(rest))
                        self.assertEqual(caught.exception.state, standing[0])
                        blocked += 1
        self.assertGreater(blocked, 100)
        self.assertGreater(let, 100)

    def test_the_rest_zero(self):
        for gate in GATES:
            for standing in some_standings(gate):
                self.assertEqual(rested(gate, standing, (0, 1)), standing)

    def test_at_below_and_above_the_room(self):
        for reach in (0, 1):
            gate = self.gate_with(("x", (2, reach)))
            standing = ("s", ((1, 3), (7, 1)))
            self.assertEqual(room(gate, standing), ((5, 3), reach))
            self.assertEqual(rested(gate, standing, (5, 4)), ("s", ((19, 12), (33, 4))))
            self.assertRaises(RestBlocked, rested, gate, standing, (1667, 1000))
            if reach:
                self.assertEqual(rested(gate, standing, (5, 3)), ("s", ((2, 1), (26, 3))))
            else:
                self.assertRaises(RestBlocked, rested, gate, standing, (5, 3))


class TestSteps(unittest.TestCase):
    def test_against_a_walk(self):
        let = refused = 0
        for gate in GATES:
            for standing in list(some_standings(gate))[::3]:
                expected = []
                for index, step in enumerate(gate.steps):
                    walk = walk_at(gate, standing)
                    if walk.step(index, step[1]):
                        expected.append(index)
                        self.assertEqual(done(gate, standing, index), walk.standing())
                        let += 1
                    else:
                        with self.assertRaises(NotLet) as caught:
                            done(gate, standing, index)
                        self.assertEqual(caught.exception.index, index)
                        refused += 1
                self.assertEqual(steps_let(gate, standing), tuple(expected))
        self.assertGreater(let, 100)
        self.assertGreater(refused, 100)

    def test_steps_that_the_gate_does_not_have(self):
        for gate in GATES + [door()]:
            for index in (-1, -2, -len(gate.steps), len(gate.steps), 400, 10 ** 30, -10 ** 30):
                if index != 0 or not gate.steps:
                    with self.assertRaises(NotLet) as caught:
                        done(gate, start(gate), index)
                    self.assertEqual(caught.exception.index, index)

    def test_stay_of_the_target(self):
        for restarts, let in (((), False), (("x",), True)):
            gate = Gate("g", ("x",), (("s", ()), ("t", (("x", (1, 1)),))), (("s", "push", (), restarts, "t"),))
            self.assertEqual(steps_let(gate, ("s", ((2, 1),))), (0,) if let else ())
            self.assertEqual(steps_let(gate, ("s", ((1, 1),))), (0,))

    def test_test_before_restart(self):
        gate = Gate("g", ("x",), (("s", ()),), (("s", "push", (("x", ((2, 1), None)),), ("x",), "s"),))
        self.assertEqual(done(gate, ("s", ((2, 1),)), 0), ("s", ((0, 1),)))
        self.assertRaises(NotLet, done, gate, ("s", ((3, 2),)), 0)


class TestRows(unittest.TestCase):
    def test_judge(self):
        check_judge(self, is_row, ((), ROW, ROW[:1]), lambda value: row_oracle(value) is None)
        self.assertIs(is_row((((1, 1), "push"), ((1, 2), "push"))), False)
        self.assertIs(is_row((((1, 1), "push"), ((1, 1), "push"))), True)
        self.assertIs(is_row((((1, 1), "a.b"),)), False)

    def test_wrong_rows(self):
        gate = door()
        seen = set()
        for value in itertools.chain(ODD_VALUES, near_values(ROW)):
            expected = row_oracle(value)
            if expected is not None:
                for work in (lets, standings, paths):
                    with self.assertRaises(InvalidRow) as caught:
                        work(gate, value)
                    self.assertEqual(caught.exception.index, expected)
                seen.add(expected)
        self.assertEqual(seen, {0, 1, 2, 3})

    def test_short_rows_by_all_paths(self):
        chance = seeded(72)
        several = let = refused = 0
        for gate in GATES:
            for length in (0, 1, 2, 2, 3, 3):
                row = random_row(chance, length)
                expected = paths_oracle(gate, row)
                self.assertEqual(paths(gate, row), expected)
                self.assertIs(lets(gate, row), expected != ())
                if expected:
                    ends = [walked(gate, (row, path, (0, 1)))[1].standing() for path in expected]
                    self.assertEqual(standings(gate, row), tuple(dict.fromkeys(ends)))
                    several += len(expected) > len(set(ends)) > 1
                    let += 1
                else:
                    index = next(index for index in range(length) if not paths_oracle(gate, row[:index + 1]))
                    with self.assertRaises(NotLet) as caught:
                        standings(gate, row)
                    self.assertEqual(caught.exception.index, index)
                    refused += 1
        self.assertGreater(let, 40)
        self.assertGreater(refused, 40)
        self.assertGreater(several, 0)

    def test_refused_entry_at_any_place(self):
        gate = door()
        row = (((1, 1), "push"), ((2, 1), "bell"), ((5, 2), "push"), ((9, 2), "bell"))
        self.assertEqual(standings(gate, row), (("shut", ((2, 1),)),))
        for index, (moment, deed) in enumerate(row):
            other = row[:index] + ((moment, "creak"),) + row[index + 1:]
            self.assertIs(lets(gate, other), False)
            self.assertEqual(paths(gate, other), ())
            with self.assertRaises(NotLet) as caught:
                standings(gate, other)
            self.assertEqual(caught.exception.index, index)
        for late in ((19, 4), (100, 1)):
            with self.assertRaises(NotLet) as caught:
                standings(gate, row[:3] + ((late, "bell"),))
            self.assertEqual(caught.exception.index, 3)

    def test_the_empty_row(self):
        for gate in GATES + [door()]:
            self.assertIs(lets(gate, ()), True)
            self.assertEqual(paths(gate, ()), ((),))
            self.assertEqual(standings(gate, ()), (start(gate),))

    def test_order_of_standings(self):
        # Step 0 leads to b and step 1 to c; later on step 2 leads from c to d and step 3 from b to d.
        gate = Gate("g", ("x",), (("a", ()), ("b", ()), ("c", ()), ("d", ())),
                    (("a", "push", (), (), "c"), ("a", "push", (), (), "b"), ("b", "push", (), (), "d"),
                     ("c", "push", (), ("x",), "d"), ("b", "push", (), ("x",), "d"), ("c", "push", (), (), "a")))
        row = (((1, 1), "push"), ((1, 1), "push"))
        self.assertEqual(paths(gate, row), ((0, 3), (0, 5), (1, 2), (1, 4)))
        self.assertEqual(standings(gate, row), (("d", ((0, 1),)), ("a", ((1, 1),)), ("d", ((1, 1),))))
        self.assertEqual(standings(gate, row[:1]), (("c", ((1, 1),)), ("b", ((1, 1),))))

    def test_many_paths(self):
        steps = (("s", "push", (), (), "s"), ("s", "push", (), (), "s"), ("s", "bell", (("x", ((0, 1), (1, 1))),), (), "s"))
        gate = Gate("g", ("x",), (("s", ()),), steps)
        row = tuple(((number, 2) if number % 2 else (number // 2, 1), "push") for number in range(39))
        self.assertIs(lets(gate, row), True)
        self.assertEqual(standings(gate, row), (("s", ((19, 1),)),))
        late = row + (((30, 1), "bell"),)
        self.assertEqual(paths(gate, late), ())
        with self.assertRaises(NotLet) as caught:
            standings(gate, late)
        self.assertEqual(caught.exception.index, 39)
        self.assertEqual(len(paths(gate, row[:10])), 1024)

    def test_large_moments(self):
        gate = door()
        moment = (999999999999, 999999999989)
        self.assertEqual(standings(gate, ((moment, "push"), (moment, "bell"))), (("shut", ((0, 1),)),))


class TestRuns(unittest.TestCase):
    def test_judge(self):
        runs = [(), (((1, 1), "push"),), (((1, 1), "push"), ((3, 1), "bell"))]
        values = [(row, (0, 1)[:len(row)], (1, 2)) for row in runs]
        check_judge(self, lambda value: is_run(door(), value), values, lambda value: run_oracle(door(), value))
        for value in ((runs[2], (0,), (0, 1)), (runs[1], (0, 1), (0, 1)), (runs[1], (-2,), (0, 1)), (runs[1], (2,), (0, 1)),
                      (runs[1], (False,), (0, 1)), (runs[1], (1,), (0, 1)), (runs[1], (0,), (5, 2)), (runs[1], (0,)),
                      (runs[1], [0], (0, 1)), [runs[1], (0,), (0, 1)], (runs[1], (0,), (0, 2)), (runs[1], (0,), 0)):
            self.assertIs(is_run(door(), value), False, value)
        self.assertIs(is_run(door(), (runs[1], (0,), (2, 1))), True)

    def test_against_a_walk(self):
        chance = seeded(73)
        indexes = []
        for gate in GATES:
            if not gate.steps:
                continue
            for _ in range(60):
                length = chance.randint(0, 3)
                path = tuple(chance.randrange(len(gate.steps)) for _ in range(length))
                row = tuple((moment, gate.steps[step][1] if chance.randint(0, 9) else "creak")
                            for (moment, _), step in zip(random_row(chance, length, until=3), path))
                run = (row, path, as_moment(Fraction(chance.randint(0, 8), 2)))
                index, walk = walked(gate, run)
                self.assertIs(is_run(gate, run), walk is not None)
                if walk is not None:
                    self.assertEqual(standing_after(gate, run), walk.standing())
                    indexes.append("let")
                else:
                    with self.assertRaises(NotLet) as caught:
                        standing_after(gate, run)
                    self.assertEqual(caught.exception.index, index)
                    indexes.append("rest" if index == length else index)
        for index in ("let", "rest", 0, 1, 2):
            self.assertGreater(indexes.count(index), 10)

    def test_first_failure(self):
        gate = door()
        row = (((1, 1), "push"), ((2, 1), "bell"))
        for run, index in (((row, (0, 1), (9, 1)), None), ((row, (0, 0), (0, 1)), 1), ((row, (1, 1), (0, 1)), 0),
                           (((((1, 2), "push"),), (0,), (0, 1)), 0), (((((1, 1), "bell"),), (0,), (0, 1)), 0),
                           ((row[:1], (0,), (2, 1)), None), ((row[:1], (0,), (9, 4)), 1),
                           ((row[:1] + (((7, 2), "bell"),), (0, 1), (0, 1)), 1), (((), (), (100, 1)), None)):
            if index is None:
                standing_after(gate, run)
            else:
                with self.assertRaises(NotLet) as caught:
                    standing_after(gate, run)
                self.assertEqual(caught.exception.index, index)

    def test_only_the_last_rest(self):
        gate = Gate("g", ("x",), (("s", (("x", (1, 0)),)),), ())
        with self.assertRaises(NotLet) as caught:
            standing_after(gate, ((), (), (1, 1)))
        self.assertEqual(caught.exception.index, 0)
        self.assertEqual(standing_after(gate, ((), (), (1, 2))), ("s", ((1, 2),)))


if __name__ == "__main__":
    unittest.main()
