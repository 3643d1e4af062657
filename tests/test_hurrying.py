"""Points 91 and 92: gates that can be hurried, and calm ranks."""

import unittest

from bellrest.gates import Gate
from bellrest.halls import Hall
from bellrest.hands import first_hand_spot, hours_table
from bellrest.hurrying import calm_ranks, hurry, hurry_run, is_calm
from bellrest.running import is_run
from bellrest.watchers import pace, turns
from helpers import Walk, all_hand_spots, check_judge, door, fraction, hand_moves_oracle, least_hours, random_gates, seeded, walked

S = (("s", ()),)
# Each push needs a rest above zero, and each bell comes within the hour.
SHRINKING = Gate("g", ("x", "y"), (("s", (("x", (1, 0)),)),),
                 (("s", "push", (("y", ((0, 0), None)),), ("y",), "s"), ("s", "bell", (("x", ((0, 0), None)),), ("x",), "s")))
SLOW = Gate("slow", ("x",), S, (("s", "push", (("x", ((1, 1), None)),), ("x",), "s"), ("s", "bell", (("x", ((0, 1), (0, 1))),), (), "s")))
CALM = Gate("calm", ("x",), S, (("s", "push", (("x", ((1, 1), None)),), ("x",), "s"),))


def calm_oracle(gate, value):
    """What point 92 says of calm ranks."""
    if type(value) is not tuple or not all(type(pair) is tuple and len(pair) == 2 for pair in value):
        return False
    told = {repr(spot) for spot in all_hand_spots(gate, gate.ceilings)}
    ranks = {}
    for spot, rank in value:
        if repr(spot) not in told or type(rank) is not int or rank < 0 or spot in ranks:
            return False
        ranks[spot] = rank
    clocks = len(gate.clocks) + 1
    if (gate.states[0][0], ((0,) * clocks, (tuple(range(1, clocks + 1)),))) not in ranks:
        return False
    for spot, rank in value:
        for move, after, hours in hand_moves_oracle(gate, gate.ceilings, spot):
            if after not in ranks:
                return False
            if move == "rest" and hours == 0 and ranks[after] > rank:
                return False
            if move != "rest" and ranks[after] >= rank:
                return False
    return True


def has_quick_loop(gate):
    """Is there a loop of hand moves with a step in which no hour is counted?"""
    spots = list(least_hours(gate, gate.ceilings))
    moves = {spot: [(move, after) for move, after, hours in hand_moves_oracle(gate, gate.ceilings, spot) if hours == 0] for spot in spots}
    for spot in spots:
        for move, after in moves[spot]:
            if move != "rest":
                reached, todo = {after}, [after]
                while todo:
                    for _, target in moves[todo.pop()]:
                        if target not in reached:
                            reached.add(target)
                            todo.append(target)
                if spot in reached:
                    return True
    return False


class TestHurry(unittest.TestCase):
    def check(self, gate, rounds=(1, 2, 3, 7)):
        """Check all answers; can the gate be hurried?"""
        found, ranks = hurry(gate), calm_ranks(gate)
        if found is None:
            self.assertIs(is_calm(gate, ranks), True)
            self.assertIs(calm_oracle(gate, ranks), True)
            for count in rounds:
                self.assertIsNone(hurry_run(gate, count))
            return False
        self.assertIsNone(ranks)
        self.assertEqual(hurry(gate), found)
        stem, loop = found
        self.assertTrue(type(stem) is tuple and type(loop) is tuple and loop)
        for count in rounds:
            self.check_run(gate, stem, loop, count)
        return True

    def check_run(self, gate, stem, loop, rounds):
        run = hurry_run(gate, rounds)
        row, path, rest = run
        self.assertEqual((path, rest), (stem + loop * rounds, (0, 1)))
        self.assertIs(is_run(gate, run), True)
        self.assertIsInstance(walked(gate, run)[1], Walk)
        self.assertLess(fraction(row[-1][0]), fraction(row[len(stem)][0]) + 1)

    def test_random(self):
        told = [0, 0]
        for gate in random_gates(91, 300):
            told[self.check(gate)] += 1
        self.assertGreater(min(told), 60)

    def test_loops_of_hand_moves(self):
        told = [0, 0]
        for gate in random_gates(92, 80):
            if sum(gate.ceilings) <= 3:
                found = has_quick_loop(gate)
                self.assertEqual(self.check(gate, (1, 4)), found)
                told[found] += 1
        self.assertGreater(min(told), 8)

    def test_gates(self):
        for gate, told in ((door(), False), (SHRINKING, True), (SLOW, True), (CALM, False), (Gate("g", ("x",), S, ()), False)):
            self.assertIs(self.check(gate), told)

    def test_steps_at_one_moment(self):
        gate = Gate("g", ("x",), S, (("s", "push", (("x", ((3, 1), (3, 1))),), (), "s"),))
        self.assertTrue(self.check(gate))
        row, _, _ = hurry_run(gate, 5)
        self.assertEqual(row, (((3, 1), "push"),) * 5)
        self.assertEqual(hurry(gate), ((), (0,)))
        # Just once at each full hour.
        hourly = Gate("g", ("x",), S, (("s", "push", (("x", ((1, 1), (1, 1))),), ("x",), "s"),))
        self.assertFalse(self.check(hourly))

    def test_bounded_by_another_clock(self):
        # Pushes as quick as one likes, but only up to the third hour; then again after an hour.
        gate = Gate("g", ("x", "y"), (("s", ()), ("t", (("y", (3, 1)),))),
                    (("s", "bell", (("x", ((2, 1), None)),), ("x", "y"), "t"), ("t", "push", (("x", ((0, 0), (1, 1))),), ("x",), "t"),
                     ("t", "bell", (("y", ((3, 1), (3, 1))),), (), "s")))
        self.assertTrue(self.check(gate))
        stem, loop = hurry(gate)
        self.assertEqual((stem[:1], set(loop)), ((0,), {1}))
        self.assertEqual(len(hurry_run(gate, 40)[0]), len(stem) + 40 * len(loop))

    def test_the_first_entry_waits_for_the_others(self):
        # The knock could come at once, but the bell after it only at 5; so the knock must wait.
        steps = (("s", "knock", (), (), "t"), ("t", "bell", (("y", ((5, 1), None)),), (), "s"))
        for states in (("s", "t"), ("t", "s")):
            gate = Gate("g", ("x", "y"), tuple((state, ()) for state in states), steps)
            self.assertTrue(self.check(gate))
        slow = Gate("g", ("x", "y"), (("s", ()), ("t", ())), (("s", "knock", (), ("x",), "t"), ("t", "bell", (("y", ((2, 0), None)),), (), "s")))
        self.assertTrue(self.check(slow))

    def test_exact_rests_add_up(self):
        # A push and a bell half an hour apart are not possible: rests are compared with whole hours only.
        gate = Gate("g", ("x", "y"), (("s", (("y", (1, 0)),)), ("t", (("y", (1, 1)),))),
                    (("s", "push", (("x", ((0, 0), None)),), ("x",), "t"), ("t", "bell", (("y", ((1, 1), (1, 1))),), ("y",), "s")))
        self.assertFalse(self.check(gate))
        # The pushes would have to come ever earlier within the hour.
        both = Gate("g", ("x", "y"), (("s", ()),),
                    (("s", "push", (("x", ((1, 1), None)), ("y", ((0, 1), (1, 0)))), ("x",), "s"), ("s", "bell", (("y", ((1, 1), None)),), ("y",), "s")))
        self.assertFalse(self.check(both))

    def test_many_rounds(self):
        stem, loop = hurry(SHRINKING)
        for rounds in (50, 200):
            self.check_run(SHRINKING, stem, loop, rounds)
        self.check_run(SLOW, *hurry(SLOW), 100)

    def test_halls(self):
        two = Hall(SHRINKING, turns("t", ("push", "bell"))).joined()
        self.assertTrue(self.check(two))
        self.assertFalse(self.check(Hall(SHRINKING, pace("p", ((1, 1), None), ("push",)), turns("t", ("push", "bell"))).joined()))
        self.assertTrue(self.check(Hall(SHRINKING, pace("p", ((1, 1), None), ("push",))).joined()))


class TestCalm(unittest.TestCase):
    def test_judge(self):
        gate = Gate("g", ("x",), (("s", ()), ("t", (("x", (1, 1)),))),
                    (("s", "go", (("x", ((1, 1), (1, 1))),), (), "t"), ("s", "go", (("x", ((0, 1), (0, 1))),), (), "t")))
        ranks = calm_ranks(gate)
        self.assertTrue(1 in dict(ranks).values())
        check_judge(self, lambda value: is_calm(gate, value), [ranks], lambda value: calm_oracle(gate, value))

    def test_order_and_further_items(self):
        chance = seeded(92)
        told = [0, 0]
        for gate in random_gates(93, 200):
            ranks = calm_ranks(gate)
            if ranks is not None and sum(gate.ceilings) <= 3:
                self.assertIs(is_calm(gate, ranks[::-1]), True)
                self.assertIs(is_calm(gate, list(ranks)), False)
                self.assertIs(is_calm(gate, ranks + ranks[:1]), False)
                self.assertIs(is_calm(gate, tuple((spot, rank + 7) for spot, rank in ranks)), True)
                values = []
                for at, (spot, rank) in enumerate(ranks):
                    values += [ranks[:at] + other + ranks[at + 1:] for other in ((), ((spot, rank + 1),), ((spot, rank - 1),))]
                known = dict(ranks)
                more = tuple((spot, chance.randint(0, 3)) for spot in all_hand_spots(gate, gate.ceilings) if spot not in known)
                values += [ranks + more, ranks + more[:1]]
                for value in values[-20:]:
                    found = calm_oracle(gate, value)
                    self.assertIs(is_calm(gate, value), found)
                    told[found] += 1
        self.assertGreater(min(told), 50)

    def test_hours_tables_are_no_ranks(self):
        table = hours_table(CALM, (None, ()))
        self.assertIs(is_calm(CALM, table), calm_oracle(CALM, table))
        self.assertIs(is_calm(CALM, ()), False)
        self.assertIs(is_calm(CALM, ((first_hand_spot(CALM, CALM.ceilings), 5),)), False)

    def test_gates_without_steps(self):
        gate = Gate("g", ("x",), (("s", ()),), (), ("go",))
        self.assertEqual({rank for _, rank in calm_ranks(gate)}, {0})
        self.assertIs(is_calm(gate, calm_ranks(gate)), True)


if __name__ == "__main__":
    unittest.main()
