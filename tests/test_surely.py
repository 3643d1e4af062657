"""Points 74 to 76: what surely happened, passages and bare rows."""

import itertools
import unittest

from bellrest.errors import InvalidGate, InvalidHall, InvalidSight, NothingFits, TooMany, UnknownName
from bellrest.fitting import first_wrong
from bellrest.gates import Gate
from bellrest.running import lets
from bellrest.sights import BareSight, RoundedSight, Sight, WindowSight
from bellrest.surely import bare_rows, how_many, moment_span, passage, surely
from fits import fitting_tables, random_sights
from helpers import connected_tables, door, grid, larger_gate, raised, random_gates, seeded
from regions import SeenRegions, passages_told

EVER = ((0, 1), None)
# Between the pushes there are knocks, at most one in an hour, and after the third hour a ring without end.
KNOCKS = Gate("knocks", ("x", "y"), (("off", ()), ("on", (("y", (3, 0)),)), ("late", ())),
              (("off", "push", (("x", ((1, 0), None)),), ("y", "x"), "on"),
               ("on", "knock", (("x", ((1, 1), None)),), ("x",), "on"),
               ("on", "push", (), ("y", "x"), "late"), ("late", "ring", (), (), "late"),
               ("late", "push", (("y", ((2, 1), (4, 0))),), ("x",), "off")))


def low_key(edge):
    return edge[0], -edge[1]


def tried_moments(gate, sight, index, most):
    """The edges of the moments of the entry over all fitting paths with at most so many steps."""
    lows, highs = [], []
    for _, seen, table in fitting_tables(gate, sight, most):
        low = table[0][seen[index]]
        lows.append((-low[0], low[1]))
        highs.append(table[seen[index]][0])
    return lows, highs


def tried_counts(gate, sight, index, deed, most):
    """The counts of the deed over all fitting paths with at most so many steps."""
    found = set()
    for path, seen, _ in fitting_tables(gate, sight, most):
        first = seen[index - 1] if index else 0
        found.add(sum(gate.steps[step][1] == deed for step in path[first:seen[index] - 1]))
    return found


class TestMoments(unittest.TestCase):
    def check(self, gate, sight, index, most):
        """Is the answer already that of the short paths?"""
        found = moment_span(gate, sight, index)
        self.assertEqual(found, SeenRegions(gate, sight, index).moment_span())
        lows, highs = tried_moments(gate, sight, index, most)
        if lows:
            self.assertLessEqual(low_key(found[0]), min(map(low_key, lows)))
            self.assertTrue(found[1] is None or (None not in highs and found[1] >= max(highs)))
        return bool(lows) and found[0] == min(lows, key=low_key) and found[1] == (None if None in highs else max(highs))

    def test_random(self):
        chance = seeded(74)
        same, kinds = [], set()
        for gate in random_gates(74, 300):
            if len(gate.steps) <= 4:
                for sight in random_sights(chance, 3):
                    if sight.entries and first_wrong(gate, sight) is None:
                        index = chance.randrange(len(sight.entries))
                        same.append(self.check(gate, sight, index, 3))
                        low, high = moment_span(gate, sight, index)
                        kinds.add((low[1], None if high is None else high[1]))
        self.assertGreater(same.count(True), 0.8 * len(same))
        self.assertGreater(len(same), 120)
        self.assertEqual(kinds, {(1, None), (0, None), (1, 1), (1, 0), (0, 1), (0, 0)})

    def test_reached_and_neared(self):
        gate = KNOCKS
        self.assertEqual(moment_span(gate, BareSight(("push",)), 0), ((1, 0), None))
        self.assertEqual(moment_span(gate, BareSight(("push", "knock")), 1), ((2, 0), None))
        sight = RoundedSight(((1, "push"), (4, "push")), ("knock",))
        # The push comes in time: y reads less than 3, so that the first push is later than 1.
        self.assertEqual(moment_span(gate, sight, 0), ((1, 0), (2, 0)))
        self.assertEqual(moment_span(gate, sight, 1), ((4, 1), (5, 0)))
        sight = Sight((((((1, 1), (2, 1))), "push"), (((4, 1), (5, 1)), "push")))
        self.assertEqual(moment_span(gate, sight, 0), ((1, 0), (2, 1)))
        self.assertEqual(moment_span(gate, sight, 1), ((4, 1), (5, 0)))

    def test_what_follows_counts(self):
        # The bell comes at most 2 hours after the push. So the push was not before 3.
        sight = Sight(((EVER, "push"), (((5, 1), (6, 1)), "bell")))
        self.assertEqual(moment_span(door(), sight, 0), ((3, 1), (6, 1)))
        self.assertEqual(moment_span(door(), sight.cut(1), 0), ((1, 1), None))
        sight = Sight(((EVER, "push"), (((5, 0), (6, 0)), "bell")))
        self.assertEqual(moment_span(door(), sight, 0), ((3, 0), (6, 0)))

    def test_windows(self):
        window = ((2, 1), (3, 0))
        self.assertEqual(moment_span(door(), WindowSight(window, ((EVER, "bell"),)), 0), ((2, 1), (3, 0)))
        sight = WindowSight(((4, 1), None), ((((0, 1), (9, 1)), "push"), (EVER, "bell")))
        self.assertEqual(moment_span(door(), sight, 0), ((4, 1), (9, 1)))
        self.assertEqual(moment_span(door(), sight, 1), ((4, 1), (11, 1)))
        sight = WindowSight(((4, 1), None), ((EVER, "bell"),))
        self.assertEqual(moment_span(door(), sight, 0), ((4, 1), (6, 0)))

    def test_long_hours(self):
        # With an upper limit far away, reached over many rounds.
        gate = Gate("g", ("x",), (("s", (("x", (1, 1)),)),), (("s", "go", (), ("x",), "s"), ("s", "end", (), ("x",), "s")))
        sight = Sight(((((0, 1), (60, 0)), "end"),), ("go",))
        self.assertEqual(moment_span(gate, sight, 0), ((0, 1), (60, 0)))
        self.assertEqual(moment_span(gate, BareSight(("end",) * 30), 29), ((0, 1), (30, 1)))
        self.assertEqual(moment_span(gate, BareSight(("end", "end"), ("go",)), 1), ((0, 1), None))


class TestCounts(unittest.TestCase):
    def test_random(self):
        chance = seeded(75)
        same, kinds = [], set()
        for gate in random_gates(75, 300):
            if len(gate.steps) <= 4:
                for sight in random_sights(chance, 3):
                    if sight.entries and first_wrong(gate, sight) is None:
                        index, deed = chance.randrange(len(sight.entries)), chance.choice(("push", "bell", "hum"))
                        found = how_many(gate, sight, index, deed)
                        self.assertEqual(found, SeenRegions(gate, sight, index).how_many(deed))
                        tried = tried_counts(gate, sight, index, deed, 3)
                        self.assertTrue(all(found[0] <= count and (found[1] is None or count <= found[1]) for count in tried))
                        same.append(bool(tried) and found[0] == min(tried) and found[1] in (None, max(tried)))
                        self.check_word(gate, sight, index, deed, found)
                        kinds.add((found[0], None if found[1] is None else min(found[1], 2)))
        self.assertGreater(same.count(True), 0.8 * len(same))
        self.assertTrue(kinds >= {(0, 0), (0, None), (1, None)}, kinds)

    def check_word(self, gate, sight, index, deed, counts):
        expected = "always" if counts[0] >= 1 else "never" if counts[1] == 0 else "sometimes"
        self.assertEqual(surely(gate, sight, index, deed), expected)

    def check(self, gate, sight, index, deed, counts):
        self.assertEqual(how_many(gate, sight, index, deed), counts)
        self.check_word(gate, sight, index, deed, counts)

    def test_hidden(self):
        sight = BareSight(("push", "push"), ("bell",))
        self.check(door(), sight, 0, "bell", (0, 0))
        self.check(door(), sight, 1, "bell", (1, 1))
        self.check(door(), sight, 1, "push", (0, 0))
        self.check(door(), BareSight(("bell", "bell"), ("push",)), 1, "push", (1, 1))
        sight = BareSight(("push", "push"), ("knock",))
        self.check(KNOCKS, sight, 1, "knock", (0, 2))
        self.check(KNOCKS, RoundedSight(((1, "push"), (1, "push")), ("knock",)), 1, "knock", (0, 0))
        self.check(KNOCKS, BareSight(("push", "push", "push"), ("ring", "knock")), 2, "ring", (0, None))
        self.check(KNOCKS, BareSight(("push", "push", "push"), ("ring", "knock")), 2, "knock", (0, 0))

    def test_neither_end_is_counted(self):
        gate = Gate("g", ("x",), (("s", ()),), (("s", "go", (), (), "s"), ("s", "end", (), (), "s")))
        self.check(gate, BareSight(("go", "go")), 0, "go", (0, 0))
        self.check(gate, BareSight(("go", "go")), 1, "go", (0, 0))
        self.check(gate, BareSight(("go", "go"), ("end",)), 0, "end", (0, None))
        self.check(gate, BareSight(("go", "go"), ("end",)), 1, "end", (0, None))
        # What comes after the last entry of the sight does not belong to a fitting run.
        once = Gate("g", ("x",), (("a", ()), ("b", ()), ("c", ())), (("a", "go", (), (), "b"), ("b", "end", (), (), "c")))
        self.check(once, BareSight(("go",), ("end",)), 0, "end", (0, 0))

    def test_windows(self):
        # The push lies outside of the window, and is counted.
        self.check(door(), WindowSight(((2, 1), (3, 1)), ((EVER, "bell"),)), 0, "push", (1, 1))
        self.check(door(), WindowSight(((2, 1), (3, 1)), ((EVER, "bell"),)), 0, "bell", (0, 0))
        self.check(door(), WindowSight(((9, 1), (9, 1)), ((EVER, "bell"),)), 0, "push", (1, 8))
        self.check(door(), WindowSight(((9, 1), (9, 1)), ((EVER, "bell"),)), 0, "bell", (0, 7))
        self.check(door(), WindowSight(((1, 1), None), ((EVER, "push"), (EVER, "bell"))), 1, "push", (0, 0))
        self.check(door(), WindowSight(((1, 1), None), ((EVER, "push"), (EVER, "push")), ("bell",)), 1, "bell", (1, 1))

    def test_counts_in_other_places_do_not_matter(self):
        gate = Gate("g", ("x",), (("a", ()), ("b", ()), ("c", ())),
                    (("a", "hum", (), (), "a"), ("a", "go", (), (), "b"), ("b", "hum", (), (), "b"), ("b", "hum", (), (), "c"),
                     ("c", "go", (), (), "c"), ("b", "knock", (), (), "c")))
        sight = BareSight(("go", "go"), ("hum", "knock"))
        self.check(gate, sight, 0, "hum", (0, None))
        self.check(gate, sight, 1, "knock", (0, 1))
        self.check(gate, sight, 1, "hum", (0, None))
        self.check(gate, BareSight(("go", "go"), ("knock",)), 1, "knock", (1, 1))

    def test_deeds_that_the_gate_does_not_have(self):
        self.check(door(), BareSight(("push",)), 0, "knock", (0, 0))
        self.check(door(), BareSight(("push",), ("knock",)), 0, "knock", (0, 0))


class TestErrors(unittest.TestCase):
    def functions(self):
        yield moment_span
        yield lambda gate, sight, index: how_many(gate, sight, index, "bell")
        yield lambda gate, sight, index: surely(gate, sight, index, "nothing")

    def test_order(self):
        many = Gate("g", tuple("abcdef"), (("s", ()),), (("s", "push", (), (), "s"),))
        full = Gate("g", ("x",), (("s", ()),), (("s", "push", (), (), "s"),) * 201)
        for function in self.functions():
            for index in (0, -1, 99):
                self.assertEqual(raised(self, InvalidGate, function, many, BareSight(("push",) * 64), index), {"part": "states", "index": 64})
                self.assertEqual(raised(self, InvalidHall, function, many, BareSight(("knock",)), index), {"index": 1})
                self.assertEqual(raised(self, TooMany, function, full, BareSight(("push", "push")), index), {"size": 402})
            wrong = BareSight(("push", "bell", "bell", "knock"))
            for index in (-1, 4, 10 ** 30, -10 ** 30):
                self.assertEqual(raised(self, InvalidSight, function, door(), wrong, index), {"index": index})
            for index in (0, 1, 2, 3):
                self.assertEqual(raised(self, NothingFits, function, door(), wrong, index), {"index": 2})
            self.assertEqual(raised(self, InvalidSight, function, door(), BareSight(()), 0), {"index": 0})
            self.assertEqual(raised(self, NothingFits, function, door(), RoundedSight(((0, "push"), (1, "bell"))), 1), {"index": 0})

    def test_passages(self):
        for names in itertools.product(("push", "bell", "knock", "hum"), repeat=3):
            unknown = [name for name in names if name in ("knock", "hum")]
            if unknown:
                self.assertEqual(raised(self, UnknownName, passage, door(), *names), {"name": unknown[0]})


WORDS = {frozenset(): None, frozenset([True]): "always", frozenset([False]): "never", frozenset([True, False]): "sometimes"}


class TestPassages(unittest.TestCase):
    def tried(self, gate, first, second, deed, most):
        """Whether the deed happens, for the passages of all paths with at most so many steps."""
        told = set()
        for path in connected_tables(gate, most):
            names = [gate.steps[step][1] for step in path]
            for i, j in itertools.combinations(range(len(names)), 2):
                between = names[i + 1:j]
                if (names[i], names[j]) == (first, second) and first not in between and second not in between:
                    told.add(deed in between)
        return told

    def test_random(self):
        same, words = [], []
        for gate in random_gates(76, 200):
            for names in itertools.product(gate.deeds, repeat=3):
                told = passages_told(gate, *names)
                found = passage(gate, *names)
                self.assertEqual(found, WORDS[frozenset(told)])
                tried = self.tried(gate, *names, 3)
                self.assertLessEqual(tried, told)
                same.append(tried == told)
                words.append(found)
        self.assertGreater(same.count(True), 0.9 * len(same))
        self.assertGreater(min(words.count(word) for word in WORDS.values()), 8)

    def test_three_deeds(self):
        chance = seeded(760)
        words = []
        for _ in range(150):
            gate = larger_gate(chance)
            for names in itertools.product(gate.deeds, repeat=3):
                found = passage(gate, *names)
                self.assertEqual(found, WORDS[frozenset(passages_told(gate, *names))])
                words.append(found)
        self.assertGreater(min(words.count(word) for word in WORDS.values()), 20)
        # What happens after the deed does not matter.
        gate = Gate("g", ("x",), tuple((name, ()) for name in "abcd"),
                    (("a", "push", (), (), "b"), ("b", "knock", (), (), "c"), ("c", "hum", (), (), "d"), ("d", "bell", (), (), "a"), ("b", "bell", (), (), "a")))
        self.assertEqual(passage(gate, "push", "bell", "knock"), "sometimes")
        self.assertEqual(passage(gate, "push", "bell", "hum"), "sometimes")
        self.assertEqual(passage(gate, "push", "hum", "knock"), "always")
        self.assertEqual(passage(gate, "knock", "push", "hum"), "always")
        self.assertEqual(passage(gate, "bell", "push", "hum"), "never")

    def test_equal_deeds(self):
        self.assertEqual(passage(door(), "push", "push", "bell"), "always")
        self.assertEqual(passage(door(), "push", "push", "push"), "never")
        self.assertEqual(passage(door(), "push", "bell", "push"), "never")
        self.assertEqual(passage(door(), "bell", "bell", "push"), "always")

    def test_none(self):
        gate = Gate("g", ("x",), (("a", ()), ("b", ())), (("a", "go", (), (), "b"),), ("stop",))
        self.assertIsNone(passage(gate, "go", "go", "stop"))
        self.assertIsNone(passage(gate, "stop", "go", "go"))
        self.assertIsNone(passage(gate, "go", "stop", "stop"))

    def test_moments_decide(self):
        # A knock is only possible after an hour, a bell only within two hours.
        gate = Gate("g", ("x",), (("a", ()), ("b", (("x", (2, 1)),)), ("c", (("x", (2, 1)),))),
                    (("a", "push", (), ("x",), "b"), ("b", "knock", (("x", ((1, 1), None)),), (), "c"),
                     ("b", "bell", (("x", ((0, 1), (1, 0))),), (), "a"), ("c", "bell", (), (), "a")))
        self.assertEqual(passage(gate, "push", "bell", "knock"), "sometimes")
        late = Gate("g", gate.clocks, gate.states, gate.steps[:2] + (("b", "bell", (("x", ((2, 0), None)),), (), "a"),) + gate.steps[3:])
        self.assertEqual(passage(late, "push", "bell", "knock"), "always")


class TestBareRows(unittest.TestCase):
    def test_random(self):
        sizes = []
        for gate in random_gates(77, 200):
            for length in range(5):
                names = {tuple(gate.steps[step][1] for step in path) for path in connected_tables(gate, 4) if len(path) == length}
                found = bare_rows(gate, length)
                self.assertEqual(found, tuple(sorted(names)))
                sizes.append(len(found))
        self.assertTrue({0, 1, 2, 8, 16} <= set(sizes))

    def test_rows_on_a_grid(self):
        for gate in random_gates(78, 40):
            moments = [moment for moment, in grid(1, 3, 4)]
            for names in itertools.product(gate.deeds, repeat=2):
                found = any(lets(gate, tuple(zip(pair, names)))
                            for pair in itertools.combinations_with_replacement(moments, 2))
                self.assertEqual(names in bare_rows(gate, 2), found)

    def test_lengths(self):
        self.assertEqual(bare_rows(door(), 0), ((),))
        self.assertEqual(bare_rows(door(), 1), (("push",),))
        self.assertEqual(bare_rows(door(), 40), (("push", "bell") * 20,))
        self.assertEqual(bare_rows(Gate("g", ("x",), (("s", ()),), (), ("go",)), 0), ((),))
        self.assertEqual(bare_rows(Gate("g", ("x",), (("s", ()),), (), ("go",)), 1), ())
        self.assertEqual(bare_rows(Gate("g", ("x",), (("s", ()),), ()), 3), ())

    def test_order(self):
        gate = Gate("g", ("x",), (("s", ()),), (("s", "b", (), (), "s"), ("s", "a", (), (), "s"), ("s", "ab", (), (), "s")))
        self.assertEqual(bare_rows(gate, 2), tuple(itertools.product(("a", "ab", "b"), repeat=2)))


if __name__ == "__main__":
    unittest.main()
