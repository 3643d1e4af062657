"""Points 50 to 52: halls, joined gates, views."""

import itertools
import unittest

from bellrest.errors import InvalidHall, InvalidRow, TooMany, UnknownName
from bellrest.gates import Gate
from bellrest.halls import Hall
from bellrest.running import lets
from helpers import (
    ODD_VALUES, Walk, door, fraction, near_values, raised, random_gate_parts, random_row, seeded, walked)

LAMP = Gate("lamp", ("x", "y"), (("off", ()), ("on", (("y", (3, 0)),))),
            (("off", "push", (), ("y",), "on"), ("off", "push", (("x", ((1, 0), None)),), ("x", "y"), "off"),
             ("on", "creak", (("y", ((1, 1), (2, 1))), ("x", ((0, 1), None))), (), "off")), ("hum",))


def plain_gate(name, clocks=1, states=1, deeds=("push",)):
    names = ["c" + "x" * number for number in range(clocks)]
    states = [("s" + "x" * number, ()) for number in range(states)]
    return Gate(name, tuple(names), tuple(states), (), deeds)


def shared_gates(seed, count):
    """Pairs of small gates that share deeds, with simple names in the second one."""
    chance = seeded(seed)
    for _ in range(count):
        _, clocks, states, steps, also = random_gate_parts(chance, 2)
        _, more, others, last, _ = random_gate_parts(chance, 2)
        plain = {"y.z": "y", "rest.now": "end"}

        def named(value):
            if type(value) is tuple:
                return tuple(map(named, value))
            return plain.get(value, value) if type(value) is str else value
        renamed = tuple((source, {"push": "push", "bell": "hum"}[deed], test, restarts, target)
                        for source, deed, test, restarts, target in named(last))
        yield Gate("g.one", clocks, states, steps, also), Gate("two", named(more), named(others), renamed, ("bell",)[:chance.randint(0, 1)])


class TestRules(unittest.TestCase):
    def test_attributes(self):
        hall = Hall(door(), LAMP)
        self.assertEqual([gate.name for gate in hall.gates], ["door", "lamp"])
        self.assertIs(type(hall.gates), tuple)
        self.assertEqual(hall.deeds, ("bell", "creak", "hum", "push"))

    def test_no_gate(self):
        self.assertEqual(raised(self, InvalidHall, Hall), {"index": 0})

    def test_six_gates_and_seven(self):
        gates = [plain_gate(name) for name in ("a", "b", "c", "d", "e", "f", "g")]
        self.assertEqual(len(Hall(*gates[:6]).gates), 6)
        self.assertEqual(raised(self, InvalidHall, Hall, *gates), {"index": 6})
        # With one clock each, seven gates would have too many clocks as well; one gate can have six.
        self.assertEqual(len(Hall(plain_gate("a", 6)).gates), 1)

    def test_equal_names(self):
        self.assertEqual(raised(self, InvalidHall, Hall, door(), LAMP, door()), {"index": 2})
        self.assertEqual(raised(self, InvalidHall, Hall, door(), door(), plain_gate("d", 6)), {"index": 1})

    def test_clocks(self):
        self.assertEqual(len(Hall(plain_gate("a", 3), plain_gate("b", 3)).gates), 2)
        self.assertEqual(raised(self, InvalidHall, Hall, plain_gate("a", 3), plain_gate("b", 4)), {"index": 1})
        self.assertEqual(raised(self, InvalidHall, Hall, plain_gate("a", 3), plain_gate("b", 2), plain_gate("c", 2)), {"index": 2})

    def test_states(self):
        self.assertEqual(len(Hall(plain_gate("a", 1, 8), plain_gate("b", 1, 8)).gates), 2)
        self.assertEqual(raised(self, InvalidHall, Hall, plain_gate("a", 1, 8), plain_gate("b", 1, 9)), {"index": 1})
        self.assertEqual(raised(self, InvalidHall, Hall, plain_gate("a", 1, 4), plain_gate("b", 1, 4), plain_gate("c", 1, 5)),
                         {"index": 2})
        self.assertEqual(len(Hall(plain_gate("a", 1, 12), plain_gate("b", 1, 5)).gates), 2)

    def test_simple_names_after_the_first_gate(self):
        dotted = (Gate("a.b", ("x",), (("s", ()),), ()), Gate("b", ("x.y",), (("s", ()),), ()),
                  Gate("c", ("x",), (("s", ()), ("s.t", ())), ()))
        for gate in dotted:
            self.assertEqual(Hall(gate).gates[0].name, gate.name)
            self.assertEqual(Hall(gate, door()).joined().clocks[-1], "door.x")
            self.assertEqual(raised(self, InvalidHall, Hall, door(), gate), {"index": 1})
            self.assertEqual(raised(self, InvalidHall, Hall, door(), LAMP, gate), {"index": 2})

    def test_owners(self):
        hall = Hall(LAMP, door())
        self.assertEqual(hall.owners("push"), ("lamp", "door"))
        self.assertEqual(hall.owners("bell"), ("door",))
        self.assertEqual(hall.owners("hum"), ("lamp",))
        self.assertEqual(hall.owners("knock"), ())


class TestJoined(unittest.TestCase):
    def test_text(self):
        lines = ["gate door.lamp", "clocks door.x lamp.x lamp.y", "state shut.off", "state shut.on lamp.y<3",
                 "state ajar.off door.x<=2", "state ajar.on door.x<=2 lamp.y<3",
                 "step shut.off push ajar.on when door.x[1,) restart door.x lamp.y",
                 "step shut.off push ajar.off when door.x[1,) lamp.x(1,) restart door.x lamp.x lamp.y",
                 "step shut.on creak shut.off when lamp.y[1,2] lamp.x[0,)",
                 "step ajar.off bell shut.off",
                 "step ajar.on bell shut.on", "step ajar.on creak ajar.off when lamp.y[1,2] lamp.x[0,)",
                 "also bell creak hum push", ""]
        self.assertEqual(Hall(door(), LAMP).joined().text(), "\n".join(lines))

    def test_two_choices_each(self):
        one = Gate("a", ("x",), (("s", ()), ("t", ())),
                   (("s", "push", (), (), "t"), ("s", "bell", (), (), "s"), ("s", "push", (), ("x",), "s")))
        other = Gate("b", ("x",), (("u", ()),), (("u", "push", (), (), "u"), ("u", "push", (("x", ((0, 1), (1, 1))),), (), "u")))
        steps = Hall(one, other).joined().steps
        self.assertEqual(steps, (
            ("s.u", "bell", (), (), "s.u"), ("s.u", "push", (), (), "t.u"),
            ("s.u", "push", (("b.x", ((0, 1), (1, 1))),), (), "t.u"), ("s.u", "push", (), ("a.x",), "s.u"),
            ("s.u", "push", (("b.x", ((0, 1), (1, 1))),), ("a.x",), "s.u")))

    def test_one_gate(self):
        joined = Hall(LAMP).joined()
        self.assertEqual(joined.name, "lamp")
        self.assertEqual(joined.clocks, ("lamp.x", "lamp.y"))
        self.assertEqual(joined.also, ("creak", "hum", "push"))
        self.assertEqual([step[:2] for step in joined.steps], [("off", "push"), ("off", "push"), ("on", "creak")])

    def test_six_gates(self):
        gates = [Gate(name, ("x",), (("s", ()), ("t", ())), (("s", "push", (), ("x",), "t"), ("t", name, (), (), "s")))
                 for name in "abcdef"]
        joined = Hall(*gates).joined()
        self.assertEqual(len(joined.states), 64)
        self.assertEqual(joined.states[1][0], "s.s.s.s.s.t")
        self.assertEqual(joined.name, "a.b.c.d.e.f")
        # The shared deed happens in all gates at once, the others in one gate each.
        self.assertEqual(len(joined.steps), 1 + 6 * 32)
        self.assertEqual(joined.steps[0], ("s.s.s.s.s.s", "push", (), tuple(name + ".x" for name in "abcdef"), "t.t.t.t.t.t"))
        self.assertEqual(joined.steps[1][:2], ("s.s.s.s.s.t", "f"))
        self.assertEqual([step[1] for step in joined.steps[-6:]], list("abcdef"))

    def test_too_many(self):
        def gate(name, count):
            return Gate(name, ("x",), (("s", ()),), (("s", "push", (), (), "s"),) * count)
        self.assertEqual(len(Hall(gate("a", 20), gate("b", 20)).joined().steps), 400)
        self.assertEqual(raised(self, TooMany, Hall(gate("a", 401 // 3), gate("b", 4)).joined), {"size": 532})
        self.assertEqual(raised(self, TooMany, Hall(gate("a", 1), gate("b", 20), gate("c", 21)).joined), {"size": 420})
        many = Hall(*[gate(name, 400) for name in "abcdef"])
        self.assertEqual(raised(self, TooMany, many.joined), {"size": 400 ** 6})
        self.assertIs(many.lets((((1, 1), "push"),)), True)

    def test_structure_of_random_halls(self):
        for gates in shared_gates(50, 60):
            hall = Hall(*gates)
            joined = hall.joined()
            self.assertEqual(joined.also, hall.deeds)
            self.assertEqual(joined.deeds, hall.deeds)
            self.assertEqual([name for name, _ in joined.states],
                             [f"{one}.{other}" for (one, _), (other, _) in itertools.product(gates[0].states, gates[1].states)])
            keys = [(joined.state_index(step[0]), step[1]) for step in joined.steps]
            self.assertEqual(keys, sorted(keys))


def view_let(gate, row):
    """Does some path of the view let the gate rest until the last moment of the row? By point 52, by hand."""
    view = tuple(entry for entry in row if entry[1] in gate.deeds)
    end = fraction(row[-1][0]) if row else 0
    last = fraction(view[-1][0]) if view else 0
    for path in itertools.product(range(len(gate.steps)), repeat=len(view)):
        count, walk = walked(gate, (view, path, (0, 1)))
        if isinstance(walk, Walk) and walk.rest(end - last):
            return True
    return False


class TestRows(unittest.TestCase):
    def test_views(self):
        hall = Hall(door(), LAMP)
        row = (((1, 1), "push"), ((3, 2), "creak"), ((2, 1), "bell"), ((2, 1), "knock"), ((5, 2), "push"))
        self.assertEqual(hall.view(row, "door"), (row[0], row[2], row[4]))
        self.assertEqual(hall.view(row, "lamp"), (row[0], row[1], row[4]))
        self.assertEqual(hall.view((), "lamp"), ())
        self.assertEqual(raised(self, UnknownName, hall.view, row, "gate"), {"name": "gate"})
        self.assertEqual(raised(self, UnknownName, hall.view, row, "door.lamp"), {"name": "door.lamp"})

    def test_views_differ(self):
        hall = Hall(door(), LAMP)
        self.assertIs(hall.lets(()), True)
        self.assertIs(hall.lets((((1, 1), "push"), ((2, 1), "creak"), ((3, 1), "bell"))), True)
        # The door must be shut by the bell 2 hours after the push, though the lamp goes on.
        self.assertIs(hall.lets((((1, 1), "push"), ((7, 2), "creak"))), False)
        self.assertIs(hall.lets((((1, 1), "push"), ((2, 1), "bell"), ((3, 1), "creak"))), True)
        # The lamp must be off within 3 hours.
        self.assertIs(hall.lets((((1, 1), "push"), ((2, 1), "bell"), ((4, 1), "push"))), False)
        self.assertIs(hall.lets((((1, 1), "knock"),)), False)
        self.assertIs(hall.lets((((1, 1), "hum"),)), False)

    def test_the_hall_lets_what_the_joined_gate_lets(self):
        chance = seeded(52)
        told = []
        for gates in shared_gates(51, 60):
            hall = Hall(*gates)
            joined = hall.joined()
            for _ in range(40):
                row = random_row(chance, chance.randint(0, 3), 2, 3, ("push", "bell", "hum", "push", "creak"))
                expected = all(deed in hall.deeds for _, deed in row) and all(view_let(gate, row) for gate in gates)
                self.assertIs(hall.lets(row), expected)
                if all(deed in hall.deeds for _, deed in row):
                    self.assertIs(lets(joined, row), expected)
                told.append(expected)
        self.assertGreater(told.count(True), 300)
        self.assertGreater(told.count(False), 300)

    def test_wrong_rows(self):
        hall = Hall(door(), LAMP)
        row = (((1, 1), "push"), ((3, 2), "bell"))
        for value in itertools.chain(ODD_VALUES, near_values(row)):
            try:
                lets(door(), value)
            except InvalidRow as wrong:
                self.assertEqual(raised(self, InvalidRow, hall.lets, value), {"index": wrong.index})
            else:
                self.assertIn(hall.lets(value), (True, False))
        self.assertEqual(raised(self, InvalidRow, hall.lets, [((1, 1), "push")]), {"index": 0})
        self.assertEqual(raised(self, InvalidRow, hall.lets, (((1, 1), "knock"), ((1, 2), "push"))), {"index": 1})


if __name__ == "__main__":
    unittest.main()
