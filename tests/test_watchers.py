"""Point 53: watchers."""

import unittest

from bellrest.errors import InvalidGate
from bellrest.halls import Hall
from bellrest.names import is_name
from bellrest.running import lets
from bellrest.spans import is_span
from bellrest.watchers import ban, label, pace, turns, window
from helpers import ODD_VALUES, door, fraction, in_span_oracle, near_values, raised, random_row, seeded

DEEDS = ("push", "bell", "push")


class TestLabels(unittest.TestCase):
    def test_values(self):
        for index, text in ((0, "a"), (1, "b"), (25, "z"), (26, "ba"), (27, "bb"), (51, "bz"), (52, "ca"), (675, "zz"),
                            (676, "baa"), (26 ** 3, "baaa"), (26 ** 3 - 1, "zzz"), (26 ** 6 + 1, "baaaaab")):
            self.assertEqual(label(index), text)

    def test_all_numbers(self):
        for index in range(3000):
            text = label(index)
            value = 0
            for letter in text:
                value = value * 26 + ord(letter) - ord("a")
            self.assertEqual(value, index)
            self.assertTrue(index == 0 or not text.startswith("a"))
        self.assertTrue(is_name(label(10 ** 12)))


class TestGates(unittest.TestCase):
    def test_texts(self):
        self.assertEqual(pace("calm", ((1, 1), None), DEEDS).text(),
                         "gate calm\nclocks c\nstate go\nstep go bell go when c[1,) restart c\n"
                         "step go push go when c[1,) restart c\nalso bell push\n")
        self.assertEqual(window("day.time", ((1, 0), (2, 1)), DEEDS).text(),
                         "gate day.time\nclocks t\nstate go\nstep go bell go when t(1,2]\nstep go push go when t(1,2]\nalso bell push\n")
        self.assertEqual(ban("no", DEEDS).text(), "gate no\nclocks c\nstate go\nalso bell push\n")
        self.assertEqual(turns("order", DEEDS).text(),
                         "gate order\nclocks c\nstate a\nstate b\nstate c\nstep a push b\nstep b bell c\nstep c push a\n"
                         "also bell push\n")
        self.assertEqual(turns("one", ("push",)).text(), "gate one\nclocks c\nstate a\nstep a push a\nalso push\n")

    def test_without_deeds(self):
        self.assertEqual(pace("a", ((0, 1), None), ()).text(), "gate a\nclocks c\nstate go\n")
        self.assertEqual(window("a", ((0, 1), None), ()).text(), "gate a\nclocks t\nstate go\n")
        self.assertEqual(ban("a", ()).text(), "gate a\nclocks c\nstate go\n")
        self.assertEqual(raised(self, InvalidGate, turns, "a", ()), {"part": "states", "index": 0})

    def test_labels_beyond_z(self):
        gate = turns("long", ("push", "bell") * 15)
        self.assertEqual(gate.steps[25], ("z", "bell", (), (), "ba"))
        self.assertEqual(gate.steps[29], ("bd", "bell", (), (), "a"))
        self.assertEqual(len(turns("long", ("push",) * 64).states), 64)
        self.assertEqual(raised(self, InvalidGate, turns, "long", ("push",) * 65), {"part": "states", "index": 64})

    def test_wrong_names(self):
        for value in ODD_VALUES + ("A", "a..b", "x" * 13, "abc.", "d e"):
            calls = [(pace, value, ((0, 1), None), DEEDS), (window, value, ((0, 1), None), DEEDS), (ban, value, DEEDS), (turns, value, DEEDS)]
            for function, *arguments in calls:
                if is_name(value):
                    self.assertEqual(function(*arguments).name, value)
                else:
                    self.assertEqual(raised(self, InvalidGate, function, *arguments), {"part": "name", "index": 0})

    def test_wrong_spans(self):
        for value in near_values(((1, 1), (1, 1))):
            for function in (pace, window):
                if is_span(value):
                    self.assertEqual(function("a", value, DEEDS).steps[0][2][0][1], value)
                else:
                    self.assertEqual(raised(self, InvalidGate, function, "a", value, DEEDS), {"part": "steps", "index": 0})
                    self.assertEqual(raised(self, InvalidGate, function, "A", value, DEEDS), {"part": "name", "index": 0})
                    self.assertEqual(function("a", value, ()).steps, ())

    def test_too_many_deeds(self):
        deeds = tuple("x" + label(index) for index in range(401))
        self.assertEqual(len(pace("a", ((0, 1), None), deeds[:400]).steps), 400)
        for function in (pace, window):
            self.assertEqual(raised(self, InvalidGate, function, "a", ((0, 1), None), deeds), {"part": "steps", "index": 400})
        self.assertEqual(len(ban("a", deeds).also), 401)


class TestRows(unittest.TestCase):
    def check(self, gate, holds, deeds):
        chance = seeded(gate.name)
        told = [0, 0]
        for _ in range(300):
            row = random_row(chance, chance.randint(0, 4), 2, 4, deeds)
            self.assertIs(lets(gate, row), holds(row), row)
            told[holds(row)] += 1
        self.assertGreater(min(told), 10)

    def test_pace(self):
        chance = seeded(53)
        for _ in range(10):
            span = ((chance.randint(0, 1), chance.randint(0, 1)), (2, chance.randint(0, 1)))

            def holds(row):
                moments = [(0, 1)] + [moment for moment, _ in row]
                return all(in_span_oracle(((fraction(other) - fraction(one)).as_integer_ratio()), span)
                           for one, other in zip(moments, moments[1:]))
            self.check(pace("calm", span, DEEDS), holds, DEEDS)

    def test_window(self):
        for span in (((1, 0), (3, 1)), ((0, 1), (2, 0)), ((2, 1), None)):
            self.check(window("day", span, DEEDS), lambda row: all(in_span_oracle(moment, span) for moment, _ in row), DEEDS)

    def test_ban(self):
        self.check(ban("no", DEEDS), lambda row: row == (), DEEDS)

    def test_turns(self):
        def holds(row):
            return tuple(deed for _, deed in row) == (DEEDS * 2)[:len(row)]
        self.check(turns("order", DEEDS), holds, DEEDS)

    def test_beside_a_gate(self):
        gate = door()
        row = (((1, 1), "push"), ((3, 1), "bell"))
        self.assertIs(lets(gate, row), True)
        self.assertIs(Hall(gate, pace("calm", ((1, 1), (2, 1)), ("bell", "push"))).lets(row), True)
        self.assertIs(Hall(gate, pace("calm", ((1, 1), (2, 0)), ("bell", "push"))).lets(row), False)
        self.assertIs(Hall(gate, pace("calm", ((1, 1), (2, 0)), ("push",))).lets(row), True)
        self.assertIs(Hall(gate, window("day", ((2, 1), None), ("push",))).lets(row), False)
        self.assertIs(Hall(gate, ban("no", ("bell",))).lets(row), False)
        self.assertIs(Hall(gate, turns("order", ("bell", "push"))).lets(row), False)
        self.assertIs(Hall(gate, turns("order", ("push", "creak"))).lets(row), True)


if __name__ == "__main__":
    unittest.main()
