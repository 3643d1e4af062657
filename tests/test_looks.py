"""Point 94: the fewest looks that settle a row."""

import itertools
import unittest

from bellrest.errors import InvalidGate, InvalidHall, InvalidRow, NotLet, TooMany
from bellrest.fitting import states_after
from bellrest.gates import Gate
from bellrest.looks import fewest_looks, least_choice
from bellrest.running import lets, standings
from bellrest.sights import Sight
from bellrest.spans import EVER, hour_span
from bellrest.watchers import label
from helpers import ODD_VALUES, door, fraction, near_values, raised, random_gates, random_row, seeded

S = (("s", ()),)
# The push leads to one of three states, depending on the hour; and so does the bell from there.
HOURS = Gate("hours", ("x", "y"), tuple((name, ()) for name in ("off", "low", "mid", "high", "red", "blue")),
             (("off", "push", (("x", ((0, 1), (1, 0))),), ("y",), "low"), ("off", "push", (("x", ((1, 1), (2, 0))),), ("y",), "mid"),
              ("off", "push", (("x", ((2, 1), None)),), ("y",), "high"), ("low", "bell", (), (), "red"), ("mid", "bell", (), (), "red"),
              ("high", "bell", (), (), "blue"), ("low", "hum", (), (), "high")))


def settles(gate, seen, hidden, looks):
    entries = tuple((hour_span(int(fraction(moment))) if index in looks else EVER, deed) for index, (moment, deed) in enumerate(seen))
    return len(states_after(gate, Sight(entries, hidden))) == 1


def fewest_oracle(gate, row, hidden):
    """All choices, those with fewer looks first."""
    seen = [entry for entry in row if entry[1] not in hidden]
    for count in range(len(seen) + 1):
        for looks in itertools.combinations(range(len(seen)), count):
            if settles(gate, seen, hidden, looks):
                return looks
    return None


class TestLooks(unittest.TestCase):
    def test_random(self):
        chance = seeded(94)
        told = {}
        for gate in random_gates(95, 2500):
            if len(gate.states) > 1 and len(gate.steps) >= 4:
                for _ in range(6):
                    row = random_row(chance, chance.randint(0, 4))
                    hidden = chance.choice(((), (), ("bell",), ("hum", "push"), ("push", "bell")))
                    if lets(gate, row):
                        found = fewest_looks(gate, row, hidden)
                        self.assertEqual(found, fewest_oracle(gate, row, hidden))
                        size = None if found is None else len(found)
                        told[size] = told.get(size, 0) + 1
        self.assertGreater(min(told[None], told[0], told[1]), 4)
        self.assertGreater(told[2], 0)

    def test_hours(self):
        push, late = ((1, 2), "push"), ((7, 3), "push")
        self.assertEqual(fewest_looks(HOURS, ()), ())
        self.assertEqual(fewest_looks(HOURS, (push,)), (0,))
        self.assertEqual(fewest_looks(HOURS, (late,)), (0,))
        self.assertEqual(fewest_looks(HOURS, (push, ((1, 2), "bell"))), (0,))
        # If the bell comes before the hour 2, so does the push; the least tuple is asked for.
        self.assertEqual(fewest_looks(HOURS, (((3, 2), "push"), ((9, 5), "bell"))), (0,))
        self.assertEqual(fewest_looks(HOURS, (push, ((3, 2), "hum"))), ())
        self.assertEqual(fewest_looks(HOURS, (push, ((9, 2), "bell")), ("hum",)), None)
        self.assertEqual(fewest_looks(HOURS, (((3, 2), "push"), ((9, 2), "bell")), ("hum",)), (0,))

    def test_many_entries(self):
        # Each of the pushes decides over one bit of the state; only the looks at three of them tell all.
        names = ["".join(bits) for count in range(4) for bits in itertools.product("ab", repeat=count)]
        states = tuple((name or "start", ()) for name in names)
        steps = []
        for name in names:
            if len(name) < 3:
                steps.append((name or "start", "push", (("x", ((0, 1), (1, 0))),), ("x",), name + "a"))
                steps.append((name or "start", "push", (("x", ((1, 1), None)),), ("x",), name + "b"))
        gate = Gate("bits", ("x",), states, tuple(steps))
        row = (((1, 2), "push"), ((3, 4), "push"), ((4, 5), "push"))
        self.assertEqual(standings(gate, row)[0][0], "aaa")
        # The last one lies in the first hour, and so do all the others.
        self.assertEqual(fewest_looks(gate, row), (2,))
        row = (((1, 2), "push"), ((8, 5), "push"), ((9, 5), "push"))
        self.assertEqual(standings(gate, row)[0][0], "aba")
        self.assertEqual(fewest_looks(gate, row), fewest_oracle(gate, row, ()))
        row = (((5, 2), "push"), ((7, 2), "push"), ((13, 2), "push"))
        self.assertEqual(fewest_looks(gate, row), None)

    def test_a_choice_among_many(self):
        # A push at the hour 9 or later is odd, wherever it stands in the row.
        states = tuple((name, ()) for name in "abcdefg") + (("odd", ()),)
        steps = []
        for one, other in zip("abcdef", "bcdefg"):
            steps.append((one, "push", (("x", ((0, 1), (9, 0))),), (), other))
            steps.append((one, "push", (("x", ((9, 1), None)),), (), "odd"))
        steps.append(("odd", "push", (), (), "odd"))
        gate = Gate("late", ("x",), states, tuple(steps))
        row = tuple(((number, 1), "push") for number in range(1, 7))
        self.assertEqual(standings(gate, row)[0][0], "g")
        self.assertEqual(fewest_looks(gate, row), (5,))
        row = tuple(((number + 6, 1), "push") for number in range(1, 7))
        self.assertEqual(standings(gate, row)[0][0], "odd")
        self.assertEqual(fewest_looks(gate, row), (2,))
        self.assertEqual(fewest_looks(gate, row[:2]), (1,))

    def test_least_choices(self):
        chance = seeded("choices")
        sizes = set()
        for _ in range(2000):
            count = chance.randint(1, 6)
            clashes = [sorted(chance.sample(range(count), chance.randint(1, min(3, count)))) for _ in range(chance.randint(0, 5))]
            choices = [choice for size in range(count + 1) for choice in itertools.combinations(range(count), size)
                       if all(set(choice) & set(clash) for clash in clashes)]
            self.assertEqual(least_choice(clashes, count), choices[0])
            sizes.add(len(choices[0]))
        self.assertTrue(sizes >= {0, 1, 2, 3, 4})

    def test_one_look_in_place_of_two(self):
        # Only the second push tells apart what the first and the third one tell apart together.
        late, early = (("x", ((2, 1), None)),), (("x", ((0, 1), (2, 0))),)
        states = tuple((name, ()) for name in ("a", "aa", "b", "bb", "c", "d"))
        steps = (("a", "push", early, ("x",), "aa"), ("aa", "push", early, (), "b"), ("aa", "push", late, (), "bb"), ("a", "push", late, (), "aa"),
                 ("b", "push", (), (), "c"), ("bb", "push", (), (), "d"))
        gate = Gate("g", ("x",), states, steps)
        for row in ((((0, 1), "push"), ((1, 1), "push"), ((1, 1), "push")), (((0, 1), "push"), ((5, 1), "push"), ((5, 1), "push"))):
            self.assertEqual(fewest_looks(gate, row), fewest_oracle(gate, row, ()))

    def test_hidden_entries(self):
        row = (((1, 1), "push"), ((2, 1), "bell"), ((3, 1), "push"), ((4, 1), "bell"))
        self.assertEqual(fewest_looks(door(), row, ("push", "bell")), ())
        self.assertEqual(fewest_looks(door(), row, ("push", "bell", "knock")), ())
        self.assertEqual(fewest_looks(door(), row, ("bell",)), ())
        # An index counts the entries that are not hidden.
        self.assertEqual(fewest_looks(HOURS, (((1, 2), "push"), ((1, 2), "hum"), ((3, 4), "bell")), ("hum",)), None)
        gate = Gate("g", ("x",), (("s", ()), ("t", ())), (("s", "hum", (), (), "s"), ("s", "push", (("x", ((0, 1), (2, 0))),), (), "s"),
                                                         ("s", "push", (("x", ((2, 1), None)),), (), "t"), ("t", "push", (), (), "t")))
        row = (((0, 1), "hum"), ((1, 1), "push"), ((1, 1), "hum"), ((3, 1), "push"))
        self.assertEqual(fewest_looks(gate, row), (3,))
        self.assertEqual(fewest_looks(gate, row, ("hum",)), (1,))

    def test_rows_with_several_ends(self):
        gate = Gate("g", ("x",), (("s", ()), ("t", ())), (("s", "go", (), (), "s"), ("s", "go", (), (), "t")))
        self.assertEqual(len(standings(gate, (((1, 1), "go"),))), 2)
        self.assertIsNone(fewest_looks(gate, (((1, 1), "go"),)))
        self.assertEqual(fewest_looks(gate, (((1, 1), "go"),), ("go",)), ())
        self.assertEqual(fewest_looks(gate, (((1, 1), "go"), ((1, 1), "go"))), None)

    def test_wrong_rows(self):
        for row in list(ODD_VALUES) + list(near_values((((1, 1), "push"), ((2, 1), "bell")))):
            try:
                standings(door(), row)
            except (InvalidRow, NotLet) as error:
                for hidden in ((), ("push", "bell"), ("bell",)):
                    self.assertEqual(raised(self, type(error), fewest_looks, door(), row, hidden), vars(error))

    def test_errors_of_the_watcher(self):
        many = Gate("g", tuple("abcdef"), S, (("s", "push", (), (), "s"),))
        full = Gate("g", ("x",), S, (("s", "push", (), (), "s"),) * 201)
        wide = Gate("g", ("x",), tuple((label(index), ()) for index in range(33)), (("a", "push", (), (), "a"),))
        row = (((1, 1), "push"),)
        for hidden in ((), ("push",), ("hum",)):
            self.assertEqual(raised(self, InvalidHall, fewest_looks, many, row, hidden), {"index": 1})
        self.assertEqual(raised(self, InvalidHall, fewest_looks, wide, row), {"index": 1})
        self.assertEqual(fewest_looks(wide, row, ("push",)), ())
        self.assertEqual(raised(self, TooMany, fewest_looks, full, row * 2), {"size": 402})
        self.assertEqual(raised(self, InvalidGate, fewest_looks, many, row * 64), {"part": "states", "index": 64})
        # The errors of the row come first.
        self.assertEqual(raised(self, NotLet, fewest_looks, many, row * 64 + (((1, 1), "hum"),)), {"index": 64})
        self.assertEqual(raised(self, InvalidRow, fewest_looks, many, row * 64 + (((1, 2), "push"),)), {"index": 64})


if __name__ == "__main__":
    unittest.main()
