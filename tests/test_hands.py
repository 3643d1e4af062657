"""Points 64 and 65: hand spots and hours tables."""

import unittest

from bellrest.errors import InvalidGoal, NotLet
from bellrest.gates import Gate
from bellrest.hands import edge_from, first_hand_spot, hand_after, hand_rest, hours_table, is_hours_table
from bellrest.goals import goal_ceilings
from helpers import (
    all_hand_spots, check_judge, door, fraction, hand_moves_oracle, in_span_oracle, least_hours, raised, random_gates, random_goal,
    readings_by_kind, seeded, wrong_goals)

LAMP = Gate("lamp", ("x", "y"), (("off", ()), ("on", (("x", (1, 0)),))),
            (("off", "push", (("y", ((1, 1), (1, 1))),), ("x",), "on"), ("on", "push", (), (), "off"),
             ("on", "bell", (("x", ((0, 0), None)),), ("y", "x"), "on")))
SMALL = Gate("g", ("x",), (("s", (("x", (1, 1)),)), ("t", ())), (("s", "go", (("x", ((0, 0), None)),), ("x",), "t"),))
GATES = [(door(), (2,)), (door(), (3,)), (LAMP, (1, 1)), (LAMP, (2, 1)), (SMALL, (1,))]
GATES += [(gate, gate.ceilings) for gate in random_gates(64, 40) if sum(gate.ceilings) <= 3][:10]


class TestMoves(unittest.TestCase):
    def test_first(self):
        self.assertEqual(first_hand_spot(door(), (2,)), ("shut", ((0, 0), ((1, 2),))))
        self.assertEqual(first_hand_spot(LAMP, (5, 7)), ("off", ((0, 0, 0), ((1, 2, 3),))))

    def test_all_moves(self):
        for gate, ceilings in GATES:
            for spot in all_hand_spots(gate, ceilings):
                moves = {move: (after, hours) for move, after, hours in hand_moves_oracle(gate, ceilings, spot)}
                self.assertEqual(hand_rest(gate, ceilings, spot), moves.pop("rest", None))
                for step in range(-2, len(gate.steps) + 2):
                    if step in moves:
                        self.assertEqual((hand_after(gate, spot, step), 0), moves[step])
                    else:
                        self.assertEqual(raised(self, NotLet, hand_after, gate, spot, step), {"index": step})

    def test_the_hand_goes_round(self):
        spot = ("shut", ((3, 0), ((2,),)))
        after = ("shut", ((3, 0), ((), (2,))))
        self.assertEqual(hand_rest(door(), (2,), spot), (after, 0))
        self.assertEqual(hand_rest(door(), (2,), after), (spot, 1))
        self.assertEqual(hand_rest(door(), (2,), ("shut", ((1, 0), ((), (1, 2))))), (("shut", ((2, 0), ((1, 2),))), 1))
        self.assertEqual(hand_rest(door(), (2,), ("shut", ((1, 0), ((), (1,), (2,))))), (("shut", ((1, 0), ((2,), (1,)))), 1))

    def test_other_ceilings(self):
        # Clocks that are beyond higher ceilings meet no upper limit; the others do as before.
        self.assertEqual(hand_after(door(), ("shut", ((8, 0), ((2,),))), 0), ("ajar", ((0, 0), ((1, 2),))))
        self.assertEqual(hand_after(door(), ("shut", ((7, 0), ((2,), (1,)))), 0), ("ajar", ((0, 0), ((1, 2),))))
        self.assertIsNone(hand_rest(door(), (7,), ("ajar", ((2, 0), ((1,), (2,))))))


def hours_oracle(gate, ceilings, value):
    if type(value) is not tuple or not all(type(pair) is tuple and len(pair) == 2 for pair in value):
        return False
    told = {repr(spot): spot for spot in all_hand_spots(gate, ceilings)}
    table = {}
    for spot, hours in value:
        if repr(spot) not in told or type(hours) is not int or hours < 0 or spot in table:
            return False
        table[spot] = hours
    clocks = len(ceilings) + 1
    if table.get((gate.states[0][0], ((0,) * clocks, (tuple(range(1, clocks + 1)),)))) != 0:
        return False
    return all(table.get(after, 10 ** 9) <= hours + counted
               for spot, hours in table.items() for _, after, counted in hand_moves_oracle(gate, ceilings, spot))


class TestTables(unittest.TestCase):
    def test_least_hours(self):
        chance = seeded(65)
        for gate, _ in GATES:
            goal = random_goal(chance, gate, 2)
            ceilings = goal_ceilings(gate, goal)
            best = least_hours(gate, ceilings)
            expected = tuple((spot, best[spot]) for spot in all_hand_spots(gate, ceilings) if spot in best)
            self.assertEqual(hours_table(gate, goal), expected)

    def test_judge(self):
        table = hours_table(SMALL, (None, ()))
        check_judge(self, lambda value: is_hours_table(SMALL, (1,), value), [table], lambda value: hours_oracle(SMALL, (1,), value))

    def test_order_and_further_items(self):
        for gate, ceilings in GATES:
            goal = (None, tuple((clock, ((0, 1), (ceiling, 1))) for clock, ceiling in zip(gate.clocks, ceilings)))
            table = hours_table(gate, goal)
            self.assertIs(is_hours_table(gate, ceilings, table), True)
            self.assertIs(is_hours_table(gate, ceilings, table[::-1]), True)
            self.assertIs(is_hours_table(gate, ceilings, list(table)), False)
            self.assertIs(is_hours_table(gate, ceilings, table + table[:1]), False)
            hours = dict(table)
            full = tuple((spot, hours.get(spot, 0)) for spot in all_hand_spots(gate, ceilings))
            self.assertIs(is_hours_table(gate, ceilings, full), hours_oracle(gate, ceilings, full))
            for at, (spot, count) in enumerate(table):
                for other in ((), ((spot, count + 1),), ((spot, count - 1),)):
                    value = table[:at] + other + table[at + 1:]
                    self.assertIs(is_hours_table(gate, ceilings, value), hours_oracle(gate, ceilings, value))

    def test_less_hours_are_allowed(self):
        # Fewer hours than the least ones make a lower edge that is still right.
        gate = SMALL
        table = tuple((spot, 0) for spot, _ in hours_table(gate, (None, ())))
        self.assertIs(is_hours_table(gate, (1,), table), True)
        self.assertIs(is_hours_table(gate, (2,), table), False)

    def test_every_item_has_the_stated_form(self):
        # These hand spots have no moves, so nothing but their own form counts.
        gate = Gate("g", ("x",), (("s", ()), ("t", (("x", (1, 1)),))), ())
        table = hours_table(gate, (None, (("x", ((0, 1), (1, 1))),)))
        last = ("t", ((1, 0), ((1, 2),)))
        for item, told in (((last, 0), True), ((last, 10 ** 20), True), ((last, -1), False), ((last, True), False), ((last, None), False),
                           ((("t", ((2, 0), ((2,),))), 3), False), ((("u", ((1, 0), ((1, 2),))), 3), False)):
            self.assertIs(is_hours_table(gate, (1,), table + (item,)), told, item)
            self.assertIs(hours_oracle(gate, (1,), table + (item,)), told)

    def test_the_hand_is_not_at_one(self):
        table = hours_table(SMALL, (None, ()))
        for kind in (((2, 1), ((2,),)), ((2, 2), ((),))):
            self.assertIs(is_hours_table(SMALL, (1,), table + ((("t", kind), 9),)), False)
        self.assertIs(is_hours_table(SMALL, (1,), table + ((("t", ((2, 0), ((2,),))), 9),)), False)
        self.assertIn(("t", ((2, 0), ((2,),))), dict(table))
        self.assertIs(is_hours_table(SMALL, (1,), table + ((("s", ((1, 0), ((1,), (2,)))), 9),)), True)


class TestEdges(unittest.TestCase):
    def test_random(self):
        chance = seeded(66)
        told = [0, 0, 0]
        for gate in random_gates(66, 60):
            goal = random_goal(chance, gate, 3)
            ceilings = goal_ceilings(gate, goal)
            if sum(ceilings) <= 5:
                table = hours_table(gate, goal)
                edges = []
                for (state, kind), hours in table:
                    *readings, hand = readings_by_kind((*ceilings, 1))[kind]
                    met = all(in_span_oracle(readings[gate.clocks.index(clock)], span) for clock, span in goal[1])
                    if met and goal[0] in (None, state):
                        edges.append((hours, 1) if fraction(hand) == 0 else (hours, 0))
                expected = min(edges, key=lambda edge: edge[0] + (1 - edge[1]) / 2, default=None)
                self.assertEqual(edge_from(gate, goal, table), expected)
                told[2 if expected is None else expected[1]] += 1
        self.assertGreater(min(told), 3)

    def test_higher_hours_in_between(self):
        table = hours_table(SMALL, ("t", ()))
        self.assertEqual(edge_from(SMALL, ("t", ()), table), (0, 0))
        self.assertEqual(edge_from(SMALL, (None, ()), table), (0, 1))
        self.assertIsNone(edge_from(SMALL, ("s", (("x", ((1, 0), None)),)), table))
        later = tuple((spot, hours + (spot[0] == "t")) for spot, hours in table)
        self.assertEqual(edge_from(SMALL, ("t", ()), later), (1, 0))
        self.assertEqual(edge_from(SMALL, ("t", ()), later[::-1]), (1, 0))
        self.assertEqual(edge_from(SMALL, ("t", ()), ()), None)

    def test_wrong_goals(self):
        for value in wrong_goals(SMALL, ("t", (("x", ((0, 1), (1, 1))),))):
            self.assertEqual(raised(self, InvalidGoal, hours_table, SMALL, value), {"value": value})
            self.assertEqual(raised(self, InvalidGoal, edge_from, SMALL, value, ()), {"value": value})


if __name__ == "__main__":
    unittest.main()
