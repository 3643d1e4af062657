"""Points 45 and 46: spots and moves."""

import itertools
import unittest

from bellrest.errors import NotLet
from bellrest.gates import Gate
from bellrest.running import is_run
from bellrest.spots import (
    is_closed_spots, is_spot, met_spots, moves_to, run_of_moves, spot_after, spot_of, spot_rest, spot_steps)
from helpers import (
    Walk, all_spots, check_judge, door, first_spot, following_kinds, fraction, kind_oracle, moves_oracle, near_values,
    raised, random_gates, spots_by_distance)

# A gate in which some spots are never met, rests end, and clocks go beyond their ceilings.
LAMP = Gate("lamp", ("x", "y"), (("off", ()), ("on", (("x", (1, 0)),)), ("broken", (("y", (2, 1)),))),
            (("off", "push", (("y", ((1, 1), (1, 1))),), ("x",), "on"), ("on", "push", (), (), "off"),
             ("on", "bell", (("x", ((0, 0), None)),), ("y", "x"), "on"), ("broken", "bell", (), (), "off"),
             ("off", "bell", (("x", ((1, 0), None)), ("y", ((0, 1), (0, 1)))), (), "broken")))
GATES = [door(), LAMP] + [gate for gate in random_gates(45, 40) if sum(gate.ceilings) <= 4][:14]


class TestSpots(unittest.TestCase):
    def test_spot_of(self):
        self.assertEqual(spot_of(door(), ("ajar", ((1, 2),))), ("ajar", ((0,), ((), (1,)))))
        self.assertEqual(spot_of(door(), ("shut", ((5, 2),))), ("shut", ((3,), ((),))))

    def test_judge(self):
        for gate in (door(), LAMP):
            spots = all_spots(gate)
            told = {repr(spot) for spot in spots}
            check_judge(self, lambda value: is_spot(gate, value), spots[::7] + spots[-1:], lambda value: repr(value) in told)

    def test_the_stay_must_hold(self):
        self.assertIs(is_spot(door(), ("shut", ((3,), ((),)))), True)
        self.assertIs(is_spot(door(), ("ajar", ((3,), ((),)))), False)
        self.assertIs(is_spot(door(), ("ajar", ((2,), ((1,),)))), True)
        self.assertIs(is_spot(door(), ("open", ((2,), ((1,),)))), False)

    def test_moves(self):
        for gate in GATES:
            for spot in all_spots(gate):
                moves = dict(moves_oracle(gate, spot))
                self.assertEqual(spot_rest(gate, spot), moves.pop("rest", None))
                self.assertEqual(spot_steps(gate, spot), tuple(moves))
                for step in range(-2, len(gate.steps) + 2):
                    if step in moves:
                        self.assertEqual(spot_after(gate, spot, step), moves[step])
                    else:
                        self.assertEqual(raised(self, NotLet, spot_after, gate, spot, step), {"index": step})

    def test_the_last_kind_rests_in_itself(self):
        self.assertEqual(spot_rest(door(), ("shut", ((3,), ((),)))), ("shut", ((3,), ((),))))
        self.assertIsNone(spot_rest(door(), ("ajar", ((2,), ((1,),)))))


class TestMet(unittest.TestCase):
    def test_met_spots(self):
        for gate in GATES:
            found = spots_by_distance(gate)
            self.assertEqual(met_spots(gate), tuple(spot for spot in all_spots(gate) if spot in found))

    def test_some_are_not_met(self):
        self.assertLess(len(met_spots(LAMP)), len(all_spots(LAMP)))
        self.assertNotIn("broken", [state for state, _ in met_spots(LAMP)])

    def test_order(self):
        gate = Gate("g", ("x",), (("z", (("x", (1, 1)),)), ("a", ())), (("z", "go", (), (), "a"), ("a", "go", (), ("x",), "z")))
        states = [state for state, _ in met_spots(gate)]
        self.assertEqual(states, ["z"] * 3 + ["a"] * 4)
        self.assertEqual(met_spots(gate)[:3], (("z", ((0,), ((), (1,)))), ("z", ((0,), ((1,),))), ("z", ((1,), ((1,),)))))


class TestClosedSpots(unittest.TestCase):
    def test_met_spots_are_closed(self):
        for gate in GATES:
            spots = met_spots(gate)
            self.assertIs(is_closed_spots(gate, spots), True)
            self.assertIs(is_closed_spots(gate, spots[::-1] + spots[:2]), True)
            self.assertIs(is_closed_spots(gate, tuple(all_spots(gate))), True)
            self.assertIs(is_closed_spots(gate, list(spots)), False)
            # Each met spot is the first one or reached from another one.
            for at in range(len(spots)):
                self.assertIs(is_closed_spots(gate, spots[:at] + spots[at + 1:]), False)

    def test_empty_and_wrong_items(self):
        gate = door()
        spots = met_spots(gate)
        self.assertIs(is_closed_spots(gate, ()), False)
        self.assertIs(is_closed_spots(gate, spots + (("ajar", ((3,), ((),))),)), False)
        self.assertIs(is_closed_spots(gate, spots + (None,)), False)
        self.assertIs(is_closed_spots(gate, spots + (["shut", ((3,), ((),))],)), False)

    def test_judge(self):
        gate = Gate("g", ("x",), (("a", (("x", (1, 0)),)), ("b", ())), (("a", "go", (), (), "b"),))

        def oracle(value):
            told = {repr(spot): spot for spot in all_spots(gate)}
            if type(value) is not tuple or any(repr(spot) not in told for spot in value):
                return False
            return first_spot(gate) in value and all(after in value for spot in value for _, after in moves_oracle(gate, spot))

        check_judge(self, lambda value: is_closed_spots(gate, value), [met_spots(gate), tuple(all_spots(gate))], oracle)


def spots_of_run(gate, run):
    """The spots that the run passes, one after the other."""
    row, path, rest = run
    walk = Walk(gate)
    found = [first_spot(gate)]
    now = fraction((0, 1))
    ends = [(fraction(moment), step) for (moment, _), step in zip(row, path)]
    last = ends[-1][0] if ends else now
    for moment, step in ends + [(last + fraction(rest), None)]:
        before = walk.standing()[1]
        walk.rest(moment - now)
        target = kind_oracle(walk.standing()[1], gate.ceilings)
        for kind in following_kinds(before, gate.ceilings):
            found.append((walk.state, kind))
            if kind == target:
                break
        if step is not None:
            assert walk.step(step, gate.steps[step][1])
            found.append((walk.state, kind_oracle(walk.standing()[1], gate.ceilings)))
        now = moment
    return [spot for spot, _ in itertools.groupby(found)]


class TestMoves(unittest.TestCase):
    def test_shortest(self):
        for gate in GATES:
            found = spots_by_distance(gate)
            for spot in all_spots(gate):
                moves = moves_to(gate, spot)
                if spot not in found:
                    self.assertIsNone(moves)
                else:
                    self.assertEqual(len(moves), found[spot])
                    self.assertEqual(self.followed(gate, moves)[-1], spot)

    def followed(self, gate, moves):
        spots = [first_spot(gate)]
        for move in moves:
            spots.append(dict(moves_oracle(gate, spots[-1]))[move])
        return spots

    def test_runs_of_moves(self):
        for gate in GATES:
            for spot in met_spots(gate):
                moves = moves_to(gate, spot)
                for longer in [moves, moves + ("rest",)] + [moves + (step,) for step in spot_steps(gate, spot)]:
                    if longer[-1:] != ("rest",) or longer == moves or spot_rest(gate, spot) is not None:
                        self.check_run(gate, longer)

    def check_run(self, gate, moves):
        run = run_of_moves(gate, moves)
        self.assertTrue(is_run(gate, run))
        self.assertEqual(run[1], tuple(move for move in moves if move != "rest"))
        expected = [spot for spot, _ in itertools.groupby(self.followed(gate, moves))]
        self.assertEqual(spots_of_run(gate, run), expected)

    def test_long_moves(self):
        # Two resets within one hour need ever smaller rests.
        gate = Gate("g", ("x", "y"), (("a", (("x", (1, 0)),)),), (("a", "go", (("y", ((0, 0), None)),), ("y",), "a"),))
        moves = ("rest", 0) * 40
        self.check_run(gate, moves)
        self.check_run(door(), ("rest",) * 30)
        self.check_run(door(), ())

    def test_moves_that_are_not_possible(self):
        gate = door()
        wait = ("rest",) * 3
        for moves, index in (((0,), 0), (wait + (1,), 3), (wait + (0, 0), 4), (wait + (0, 1, 0), 5), (wait + (0,) + ("rest",) * 5, 8),
                             (("rest", 2), 1), ((-1,), 0), (("rest", True), 1), ((False,), 0), ((None,), 0), (("Rest",), 0),
                             (((),), 0), (("rest", "rest", ("rest",)), 2), (([0],), 0), (("rest", 10 ** 30, 0), 1)):
            self.assertEqual(raised(self, NotLet, run_of_moves, gate, moves), {"index": index})

    def test_near_values(self):
        gate = door()
        moves = ("rest", "rest", 0, "rest", 1)
        for other in near_values(moves):
            if type(other) is tuple:
                index = self.first_fault(gate, other)
                if index is None:
                    self.check_run(gate, other)
                else:
                    self.assertEqual(raised(self, NotLet, run_of_moves, gate, other), {"index": index})

    def first_fault(self, gate, moves):
        spot = first_spot(gate)
        for index, move in enumerate(moves):
            possible = dict(moves_oracle(gate, spot))
            if not (type(move) is int or move == "rest") or move not in possible:
                return index
            spot = possible[move]
        return None


if __name__ == "__main__":
    unittest.main()
