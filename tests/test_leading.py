"""Points 95 and 96: plans and traps."""

import itertools
import unittest

from bellrest.errors import UnknownName
from bellrest.gates import Gate
from bellrest.leading import is_plan, is_trap, plan, trap
from bellrest.spots import is_spot
from helpers import ODD_VALUES, all_spots, check_judge, door, first_spot, moves_oracle, raised, random_gates, seeded, spots_by_distance

# Somebody may knock at any time before x reads 2; the lamp must be led to the light by pushes.
LAMP = Gate("lamp", ("x",), (("dark", ()), ("dim", (("x", (2, 1)),)), ("light", ()), ("broken", ())),
            (("dark", "push", (("x", ((1, 1), None)),), ("x",), "dim"), ("dim", "push", (("x", ((1, 0), None)),), (), "light"),
             ("dim", "knock", (("x", ((0, 1), (1, 0))),), (), "dark"), ("dark", "knock", (("x", ((0, 1), (0, 1))),), (), "broken"),
             ("light", "knock", (), (), "broken")))
SMALL = Gate("g", ("x",), (("s", (("x", (1, 1)),)), ("t", ())), (("s", "go", (("x", ((0, 0), None)),), ("x",), "t"), ("t", "hum", (), (), "t")))


def parts_of(gate, ours, spot, moves=None):
    """The rest, our steps and the steps of others at the spot, with the spots after them."""
    found = dict(moves_oracle(gate, spot) if moves is None else moves)
    rest = found.pop("rest", None)
    own = {step: after for step, after in found.items() if gate.steps[step][1] in ours}
    foreign = [after for step, after in found.items() if gate.steps[step][1] not in ours]
    return rest, own, foreign


def plan_oracle(gate, ours, aim, value, spots):
    """What point 95 says of a plan; spots has the moves of all spots of the gate."""
    if type(value) is not tuple or not all(type(item) is tuple and len(item) == 3 for item in value):
        return False
    told = {repr(spot) for spot in spots}
    ranks = {}
    for spot, rank, _ in value:
        if repr(spot) not in told or type(rank) is not int or rank < 0 or spot in ranks:
            return False
        ranks[spot] = rank
    if first_spot(gate) not in ranks:
        return False
    for spot, rank, move in value:
        if spot[0] == aim:
            if rank != 0 or move != "done":
                return False
            continue
        rest, own, foreign = parts_of(gate, ours, spot, spots[spot])
        if rank < 1 or not (type(move) is int or move == "rest"):
            return False
        after = rest if move == "rest" else own.get(move)
        if after is None or not all(ranks.get(target, rank) < rank for target in [after] + foreign):
            return False
    return True


def trap_oracle(gate, ours, aim, value, spots):
    """What point 96 says of a trap."""
    told = {repr(spot) for spot in spots}
    if type(value) is not tuple or not all(repr(spot) in told for spot in value) or first_spot(gate) not in value:
        return False
    for spot in value:
        rest, own, foreign = parts_of(gate, ours, spot, spots[spot])
        led_on = any(after in value for after in foreign)
        held = (rest is None or rest in value) and all(after in value for after in own.values())
        if spot[0] == aim or not (led_on or held):
            return False
    return True


def can_be_led(gate, ours, aim):
    """Round after round: the spots from which the aim is met for sure."""
    spots = {spot: parts_of(gate, ours, spot) for spot in spots_by_distance(gate)}
    good = {spot for spot in spots if spot[0] == aim}
    while True:
        more = {spot for spot, (rest, own, foreign) in spots.items()
                if spot not in good and all(after in good for after in foreign)
                and any(after in good for after in [rest] * (rest is not None) + list(own.values()))}
        if not more:
            return first_spot(gate) in good
        good |= more


def all_moves(gate):
    return {spot: moves_oracle(gate, spot) for spot in all_spots(gate)}


class TestLeading(unittest.TestCase):
    def check(self, gate, ours, aim):
        found, held = plan(gate, ours, aim), trap(gate, ours, aim)
        self.assertEqual(found is None, held is not None)
        self.assertEqual((plan(gate, ours, aim), trap(gate, ours, aim)), (found, held))
        if found is None:
            self.assertIs(is_trap(gate, ours, aim, held), True)
            self.assertIs(is_trap(gate, ours, aim, held[::-1] + held[:2]), True)
            self.assertFalse(is_plan(gate, ours, aim, held))
            return False
        self.assertIs(is_plan(gate, ours, aim, found), True)
        self.assertIs(is_plan(gate, ours, aim, found[::-1]), True)
        self.assertIs(is_plan(gate, ours, aim, found + found[:1]), False)
        return True

    def test_random(self):
        chance = seeded(95)
        told = {}
        for gate in random_gates(96, 300):
            for _ in range(2):
                ours = tuple(deed for deed in gate.deeds if chance.randint(0, 1))
                aim = chance.choice(gate.states)[0]
                found = self.check(gate, ours, aim)
                self.assertEqual(found, can_be_led(gate, ours, aim))
                size = found and min(3, len(plan(gate, ours, aim)))
                told[size] = told.get(size, 0) + 1
        self.assertGreater(min(told[False], told[1], told[3]), 6)

    def test_oracles(self):
        chance = seeded(96)
        for gate in random_gates(97, 60):
            if sum(gate.ceilings) <= 4:
                spots = all_moves(gate)
                for aim, _ in gate.states:
                    ours = tuple(deed for deed in gate.deeds if chance.randint(0, 1))
                    found, held = plan(gate, ours, aim), trap(gate, ours, aim)
                    if found is not None:
                        self.assertTrue(plan_oracle(gate, ours, aim, found, spots))
                    else:
                        self.assertTrue(trap_oracle(gate, ours, aim, held, spots))

    def test_lamp(self):
        self.assertTrue(self.check(LAMP, ("push", "knock"), "light"))
        self.assertTrue(self.check(LAMP, ("push", "knock"), "broken"))
        # At the start somebody may knock at once.
        self.assertFalse(self.check(LAMP, ("push",), "light"))
        self.assertFalse(self.check(LAMP, ("push",), "dim"))
        self.assertFalse(self.check(LAMP, (), "light"))
        self.assertTrue(self.check(LAMP, (), "dark"))
        safe = Gate("safe", LAMP.clocks, LAMP.states, LAMP.steps[:2] + LAMP.steps[4:], ("knock",))
        self.assertTrue(self.check(safe, ("push",), "light"))
        self.assertFalse(self.check(safe, ("push",), "broken"))
        # Nobody has to knock: others may wait for ever.
        self.assertFalse(self.check(safe, ("knock",), "light"))
        moves = {spot: move for spot, _, move in plan(safe, ("push",), "light")}
        self.assertEqual(moves[first_spot(safe)], "rest")
        self.assertEqual(set(moves.values()), {"rest", 0, 1, "done"})

    def test_plans_of_rank_zero(self):
        for ours in ((), ("push",), ("push", "bell")):
            self.assertEqual(plan(door(), ours, "shut"), ((first_spot(door()), 0, "done"),))
            self.assertIsNone(trap(door(), ours, "shut"))

    def test_traps_whose_last_spots_do_not_rest(self):
        gate = Gate("g", ("x",), (("s", (("x", (1, 1)),)), ("t", ())), (("s", "go", (("x", ((1, 0), None)),), (), "t"),))
        held = trap(gate, ("go",), "t")
        self.assertEqual(held, tuple(("s", kind) for kind in (((0,), ((), (1,))), ((0,), ((1,),)), ((1,), ((1,),)))))
        self.assertFalse(self.check(gate, ("go",), "t"))

    def test_others_may_be_quicker(self):
        # At the hour 1 both are let: a plan must be good for either, also if ours would lead to the aim.
        gate = Gate("g", ("x",), (("s", (("x", (1, 1)),)), ("t", ()), ("u", ())),
                    (("s", "go", (("x", ((1, 1), (1, 1))),), (), "t"), ("s", "hum", (("x", ((1, 1), (1, 1))),), (), "u")))
        self.assertFalse(self.check(gate, ("go",), "t"))
        self.assertTrue(self.check(gate, ("go", "hum"), "t"))
        back = Gate("g", gate.clocks, gate.states, gate.steps + (("u", "go", (), (), "t"),))
        self.assertTrue(self.check(back, ("go",), "t"))
        self.assertFalse(self.check(back, ("hum",), "t"))

    def test_played(self):
        # Others do what they like; the moves of the plan lead to the aim within its rank.
        chance = seeded(97)
        longest = 0
        for gate in [Gate("safe", LAMP.clocks, LAMP.states, LAMP.steps[:3] + LAMP.steps[4:])] + random_gates(98, 120):
            for aim, _ in gate.states:
                ours = tuple(deed for deed in gate.deeds if deed != "bell")
                found = plan(gate, ours, aim)
                if found is not None:
                    told = {spot: (rank, move) for spot, rank, move in found}
                    for _ in range(4):
                        spot, count = first_spot(gate), 0
                        while told[spot][1] != "done":
                            rest, own, foreign = parts_of(gate, ours, spot)
                            move = told[spot][1]
                            choices = foreign + [rest if move == "rest" else own[move]]
                            spot = chance.choice(choices)
                            count += 1
                        self.assertEqual(spot[0], aim)
                        self.assertLessEqual(count, told[first_spot(gate)][0])
                        longest = max(longest, count)
        self.assertGreater(longest, 5)


class TestJudges(unittest.TestCase):
    def test_plan_judge(self):
        spots = all_moves(SMALL)
        found = plan(SMALL, ("go",), "t")
        self.assertGreater(len(found), 2)
        check_judge(self, lambda value: is_plan(SMALL, ("go",), "t", value), [found],
                    lambda value: plan_oracle(SMALL, ("go",), "t", value, spots))

    def test_plan_judge_with_others(self):
        # With further spots, other ranks and moves of others in the place of ours.
        gate = Gate("g", ("x",), (("s", ()), ("t", ())), (("s", "go", (), (), "t"), ("s", "hum", (), (), "s"), ("s", "hum", (("x", ((0, 0), None)),), (), "t")))
        spots = all_moves(gate)
        first, second, last = [spot for spot in spots if spot[0] == "s"][1::-1] + [spot for spot in spots if spot[0] == "t"][1:2]
        told = [0, 0]
        ranks = ((0, 1, 2), (1, 2, 0), (2, 1, 0), (3, 2, 0), (5, 3, 1), (1, 0, 0), (2, 2, 0), (10 ** 20, 1, 0))
        for ours in (("go", "hum"), ("go",), ("hum",), ()):
            for numbers in ranks:
                for moves in itertools.product(("rest", 0, 1, 2, "done", True, None), ("rest", 0, 2, "done"), ("done", "rest", 0)):
                    value = tuple(zip((first, second, last), numbers, moves))
                    found = plan_oracle(gate, ours, "t", value, spots)
                    self.assertIs(is_plan(gate, ours, "t", value), found)
                    told[found] += 1
        self.assertGreater(min(told), 1)

    def test_changed_plans(self):
        chance = seeded("plans")
        told = [0, 0]
        for gate in random_gates(951, 400):
            if sum(gate.ceilings) <= 4:
                spots = all_moves(gate)
                moves = ["rest", "done", None, True] + list(range(-1, len(gate.steps) + 1)) * 2
                for aim, _ in gate.states:
                    ours = tuple(deed for deed in gate.deeds if chance.randint(0, 2))
                    made = plan(gate, ours, aim)
                    for _ in range(6 if made else 0):
                        at = chance.randrange(len(made))
                        spot, rank, move = made[at]
                        change = chance.randint(0, 3)
                        other = ((), ((spot, rank, chance.choice(moves)),), ((spot, rank + chance.randint(-1, 2), move),),
                                 ((chance.choice(list(spots)), rank, move),))[change]
                        fewer = tuple(deed for deed in ours if chance.randint(0, 3))
                        value = made[:at] + other + made[at + 1:]
                        for names in (ours, fewer):
                            found = plan_oracle(gate, names, aim, value, spots)
                            self.assertIs(is_plan(gate, names, aim, value), found)
                            told[found] += 1
        self.assertGreater(min(told), 100)

    def test_ranks_of_the_aim(self):
        first = first_spot(door())
        for rank, move, told in ((0, "done", True), (1, "done", False), (0, "rest", False), (1, "rest", False), (0, 0, False), (-1, "done", False)):
            self.assertIs(is_plan(door(), ("push",), "shut", ((first, rank, move),)), told)

    def test_trap_judge(self):
        for ours, aim in (((), "t"), (("hum",), "t"), (("go",), "s")):
            spots = all_moves(SMALL)
            held = trap(SMALL, ours, aim)
            if held is not None:
                check_judge(self, lambda value: is_trap(SMALL, ours, aim, value), [held], lambda value: trap_oracle(SMALL, ours, aim, value, spots))

    def test_parts_of_traps(self):
        chance = seeded(99)
        told = [0, 0]
        for gate in random_gates(99, 80):
            if sum(gate.ceilings) <= 4:
                spots = all_moves(gate)
                for aim, _ in gate.states:
                    ours = tuple(deed for deed in gate.deeds if chance.randint(0, 1))
                    held = trap(gate, ours, aim) or tuple(spot for spot in spots if spot[0] != aim)
                    for missing in (0, 0, 1, 1, 2):
                        value = tuple(chance.sample(held, max(0, len(held) - missing))) + tuple(chance.sample(list(spots), chance.randint(0, 1)))
                        found = trap_oracle(gate, ours, aim, value, spots)
                        self.assertIs(is_trap(gate, ours, aim, value), found)
                        told[found] += 1
        self.assertGreater(min(told), 40)

    def test_our_steps_lead_out(self):
        # Nobody else does anything, and the rest goes on for ever; but people can push.
        for ours, told in (((), True), (("push",), False)):
            gate = Gate("g", ("x",), (("s", ()), ("t", ())), (("s", "push", (("x", ((1, 1), None)),), (), "t"),) * bool(ours), ("push",))
            spots = tuple(spot for spot in all_spots(gate) if spot[0] == "s")
            self.assertIs(is_trap(gate, ours, "t", spots), told)
            self.assertIs(is_trap(gate, ("push",), "t", spots), told)

    def test_every_item_has_the_stated_form(self):
        found, held = plan(SMALL, ("go",), "t"), trap(SMALL, (), "t")
        wrong = ("s", ((2,), ((),)))
        self.assertIs(is_spot(SMALL, wrong), False)
        self.assertIs(is_plan(SMALL, ("go",), "t", found + ((wrong, 9, "rest"),)), False)
        self.assertIs(is_plan(SMALL, ("go",), "t", list(found)), False)
        self.assertIs(is_plan(SMALL, ("go",), "t", ()), False)
        self.assertIs(is_trap(SMALL, (), "t", held + (wrong,)), False)
        self.assertIs(is_trap(SMALL, (), "t", list(held)), False)
        self.assertIs(is_trap(SMALL, (), "t", ()), False)
        more = found + ((("t", ((2,), ((),))), 0, "done"),)
        self.assertIs(is_plan(SMALL, ("go",), "t", more), True)

    def test_names_come_first(self):
        for value in ODD_VALUES + (plan(SMALL, ("go",), "t"), trap(SMALL, (), "t")):
            for judge in (is_plan, is_trap):
                self.assertEqual(raised(self, UnknownName, judge, SMALL, ("go", "bell", "push"), "u", value), {"name": "bell"})
                self.assertEqual(raised(self, UnknownName, judge, SMALL, ("go", "hum"), "u", value), {"name": "u"})
                self.assertEqual(raised(self, UnknownName, judge, SMALL, ("t",), "t", value), {"name": "t"})
        for function in (plan, trap):
            self.assertEqual(raised(self, UnknownName, function, SMALL, ("push", "bell"), "u"), {"name": "push"})
            self.assertEqual(raised(self, UnknownName, function, SMALL, (), "x"), {"name": "x"})
            self.assertEqual(raised(self, UnknownName, function, SMALL, ("go",), "go"), {"name": "go"})


if __name__ == "__main__":
    unittest.main()
