"""Points 70 to 72: sights, their kinds and their watchers."""

import itertools
import unittest

from bellrest.errors import InvalidGate, InvalidSight, InvalidSpan
from bellrest.running import paths
from bellrest.sights import BareSight, RoundedSight, Sight, WindowSight
from bellrest.watchers import label
from helpers import (
    ODD_VALUES, fits_oracle, in_span_oracle, near_values, raised, random_row, random_span, seeded, simple_oracle, span_oracle)

EVER = ((0, 1), None)
DAY = ((2, 1), (4, 0))
ENTRIES = ((((1, 1), (2, 0)), "push"), (EVER, "bell"), (((0, 0), (5, 1)), "push"))


def hidden_fault(hidden, deeds):
    """What the constructor says of hidden deeds beside entries with these deeds: an index or None."""
    if type(hidden) is not tuple or not all(map(simple_oracle, hidden)) or len(set(hidden)) < len(hidden):
        return len(deeds)
    return next((index for index, deed in enumerate(deeds) if deed in hidden), None)


def items_fault(items, is_item):
    """The index of the first wrong item, 0 for no tuple, or None."""
    if type(items) is not tuple:
        return 0
    return next((index for index, item in enumerate(items) if not is_item(item)), None)


def entry_oracle(value):
    return type(value) is tuple and len(value) == 2 and span_oracle(value[0]) and simple_oracle(value[1])


def sight_fault(entries, hidden):
    found = items_fault(entries, entry_oracle)
    return hidden_fault(hidden, [deed for _, deed in entries]) if found is None else found


class Base(unittest.TestCase):
    def check(self, make, index, *arguments, **named):
        """The sight, or None if it must be refused with this index."""
        if index is None:
            return make(*arguments, **named)
        with self.assertRaises(InvalidSight) as caught:
            make(*arguments, **named)
        self.assertEqual((caught.exception.index, type(caught.exception)), (index, InvalidSight))
        return None


class TestSight(Base):
    def test_attributes(self):
        sight = Sight(ENTRIES, ("creak", "hum"))
        self.assertEqual((sight.entries, sight.hidden), (ENTRIES, ("creak", "hum")))
        self.assertEqual(Sight(()).hidden, ())

    def test_errors(self):
        for entries in near_values(ENTRIES):
            found = self.check(Sight, sight_fault(entries, ("creak",)), entries, ("creak",))
            if found is not None:
                self.assertEqual(found.entries, entries)
        for hidden in list(near_values(("creak", "hum"))) + [("push",), ("bell",), ("creak", "creak"), ("Creak",)]:
            self.check(Sight, sight_fault(ENTRIES, hidden), ENTRIES, hidden)
            self.check(Sight, sight_fault((), hidden), (), hidden)

    def test_order_of_the_checks(self):
        wrong = ENTRIES[:2] + (("x", "push"),)
        self.check(Sight, 2, wrong, ("push",))
        self.check(Sight, 2, wrong, None)
        self.check(Sight, 3, ENTRIES, ("push", "push"))
        self.check(Sight, 0, ENTRIES, ("push",))
        self.check(Sight, 1, ENTRIES, ("bell",))
        self.check(Sight, 0, list(ENTRIES), None)
        self.check(Sight, 0, (), ["push"])

    def test_texts(self):
        self.assertEqual(Sight(()).text(), "nothing")
        self.assertEqual(Sight((), ("creak", "bell")).text(), "nothing hiding creak bell")
        self.assertEqual(Sight(ENTRIES[:1]).text(), "[1,2) push")
        self.assertEqual(Sight(ENTRIES, ("hum", "creak")).text(), "[1,2) push, [0,) bell, (0,5] push hiding hum creak")

    def test_fits(self):
        sight = Sight(ENTRIES[:1], ("hum",))
        for row, told in (((((1, 1), "push"),), True), ((((2, 1), "push"),), False), ((((3, 2), "bell"),), False), ((), False),
                          ((((1, 2), "hum"), ((3, 2), "push"), ((9, 1), "hum")), True),
                          ((((3, 2), "push"), ((3, 2), "push")), False), ((((3, 2), "push"), ((9, 1), "bell")), False)):
            self.assertIs(sight.fits(row), told)
        self.assertIs(Sight(()).fits(()), True)
        self.assertIs(Sight((), ("hum",)).fits((((1, 1), "hum"),)), True)
        self.assertIs(Sight((), ("hum",)).fits((((1, 1), "push"),)), False)

    def test_cut(self):
        sight = Sight(ENTRIES, ("hum",))
        for count in (0, 1, 2, 3, 4, 10 ** 20):
            found = sight.cut(count)
            self.assertIs(type(found), Sight)
            self.assertEqual((found.entries, found.hidden), (ENTRIES[:count], ("hum",)))
        self.assertEqual(sight.entries, ENTRIES)


class TestRounded(Base):
    HOURS = ((0, "push"), (1, "bell"), (12, "push"))

    def test_attributes(self):
        sight = RoundedSight(self.HOURS, ("hum",))
        self.assertEqual((sight.hours, sight.hidden, sight.rounding), (self.HOURS, ("hum",), "down"))
        self.assertEqual(sight.entries, ((((0, 1), (1, 0)), "push"), (((1, 1), (2, 0)), "bell"), (((12, 1), (13, 0)), "push")))
        sight = RoundedSight(self.HOURS, rounding="up")
        self.assertEqual((sight.hours, sight.hidden, sight.rounding), (self.HOURS, (), "up"))
        self.assertEqual(sight.entries, ((((0, 1), (0, 1)), "push"), (((0, 0), (1, 1)), "bell"), (((11, 0), (12, 1)), "push")))

    def test_texts(self):
        self.assertEqual(RoundedSight(((1, "push"), (2, "bell")), ("creak",)).text(), "rounded down: [1,2) push, [2,3) bell hiding creak")
        self.assertEqual(RoundedSight(((1, "push"),), rounding="up").text(), "rounded up: (0,1] push")
        self.assertEqual(RoundedSight((), ("hum",), rounding="up").text(), "rounded up: nothing hiding hum")

    def test_errors(self):
        def is_hour(value):
            return (type(value) is tuple and len(value) == 2 and type(value[0]) is int and value[0] >= 0 and simple_oracle(value[1]))
        for hours in near_values(self.HOURS):
            index = items_fault(hours, is_hour)
            if index is None:
                index = hidden_fault(("hum",), [deed for _, deed in hours])
            self.check(RoundedSight, index, hours, ("hum",))
        for hidden in list(near_values(("creak", "hum"))) + [("push",), ("bell",)]:
            self.check(RoundedSight, hidden_fault(hidden, ["push", "bell", "push"]), self.HOURS, hidden)

    def test_rounding_first(self):
        for rounding in ODD_VALUES + ("Down", "up ", ["up"]):
            with self.assertRaises(InvalidSpan) as caught:
                RoundedSight(None, None, rounding=rounding)
            self.assertIs(caught.exception.value, rounding)
        self.assertEqual(raised(self, InvalidSight, RoundedSight, ((0, "push"), (-1, "bell")), None), {"index": 1})

    def test_fits(self):
        for rounding, moment, told in (("down", (3, 2), True), ("down", (2, 1), False), ("up", (3, 2), False), ("up", (1, 1), True)):
            self.assertIs(RoundedSight(((1, "push"),), rounding=rounding).fits(((moment, "push"),)), told)

    def test_cut(self):
        sight = RoundedSight(self.HOURS, ("hum",), rounding="up")
        for count in (0, 2, 3, 9):
            found = sight.cut(count)
            self.assertIs(type(found), RoundedSight)
            self.assertEqual((found.hours, found.hidden, found.rounding), (self.HOURS[:count], ("hum",), "up"))
            self.assertEqual(found.entries, sight.entries[:count])
        self.assertEqual(RoundedSight(self.HOURS).cut(1).rounding, "down")


class TestBare(Base):
    NAMES = ("push", "bell", "push")

    def test_attributes_and_texts(self):
        sight = BareSight(self.NAMES, ("hum", "creak"))
        self.assertEqual((sight.names, sight.hidden), (self.NAMES, ("hum", "creak")))
        self.assertEqual(sight.entries, ((EVER, "push"), (EVER, "bell"), (EVER, "push")))
        self.assertEqual(sight.text(), "bare: [0,) push, [0,) bell, [0,) push hiding hum creak")
        self.assertEqual(BareSight(()).text(), "bare: nothing")

    def test_errors(self):
        for names in near_values(self.NAMES):
            index = items_fault(names, simple_oracle)
            if index is None:
                index = hidden_fault(("hum",), names)
            self.check(BareSight, index, names, ("hum",))
        for hidden in list(near_values(("creak", "hum"))) + [("push",), ("bell",)]:
            self.check(BareSight, hidden_fault(hidden, self.NAMES), self.NAMES, hidden)
        self.check(BareSight, 1, ("push", "Bell"), None)

    def test_fits_and_cut(self):
        sight = BareSight(self.NAMES, ("hum",))
        self.assertIs(sight.fits((((0, 1), "push"), ((1, 1), "hum"), ((7, 1), "bell"), ((9, 1), "push"))), True)
        self.assertIs(sight.fits((((0, 1), "push"), ((7, 1), "bell"))), False)
        found = sight.cut(2)
        self.assertIs(type(found), BareSight)
        self.assertEqual((found.names, found.hidden, len(found.entries)), (("push", "bell"), ("hum",), 2))
        self.assertEqual(sight.cut(9).names, self.NAMES)


class TestWindow(Base):
    SEEN = ((((1, 1), (2, 1)), "push"), (EVER, "bell"), (((3, 0), (9, 1)), "push"))

    def test_attributes_and_texts(self):
        sight = WindowSight(DAY, self.SEEN, ("hum",))
        self.assertEqual((sight.window, sight.entries, sight.hidden), (DAY, self.SEEN, ("hum",)))
        self.assertEqual(sight.text(), "window [2,4): [1,2] push, [0,) bell, (3,9] push hiding hum")
        self.assertEqual(WindowSight(EVER, ()).text(), "window [0,): nothing")

    def test_errors(self):
        def fault(window, entries, hidden):
            found = sight_fault(entries, hidden)
            if found is None:
                found = next((index for index, (span, _) in enumerate(entries) if not common(window, span)), None)
            return found
        for entries in near_values(self.SEEN):
            self.check(WindowSight, fault(DAY, entries, ("hum",)), DAY, entries, ("hum",))
        for hidden in list(near_values(("creak", "hum"))) + [("push",), ("bell",)]:
            self.check(WindowSight, fault(DAY, self.SEEN, hidden), DAY, self.SEEN, hidden)
        apart = ((EVER, "push"), (((4, 1), None), "bell"))
        self.check(WindowSight, 1, DAY, apart)
        self.check(WindowSight, 0, DAY, apart, ("push",))
        self.check(WindowSight, 2, DAY, apart, None)
        self.check(WindowSight, 0, DAY, ((((0, 1), (2, 0)), "push"),))
        self.assertEqual(WindowSight(DAY, ((((0, 1), (2, 1)), "push"),)).entries, ((((0, 1), (2, 1)), "push"),))

    def test_window_first(self):
        for window in itertools.chain(near_values(DAY), [((1, 0), (1, 1)), ((-1, 1), None)]):
            if not span_oracle(window):
                with self.assertRaises(InvalidSpan) as caught:
                    WindowSight(window, None, None)
                self.assertIs(caught.exception.value, window)

    def test_fits(self):
        sight = WindowSight(DAY, self.SEEN[:2], ("hum",))
        for row, told in (((((2, 1), "push"), ((3, 1), "bell")), True), ((((3, 2), "push"), ((3, 1), "bell")), False),
                          ((((0, 1), "bell"), ((2, 1), "push"), ((3, 1), "hum"), ((3, 1), "bell"), ((4, 1), "push")), True),
                          ((((2, 1), "push"), ((4, 1), "bell")), False)):
            self.assertIs(sight.fits(row), told)
        self.assertIs(WindowSight(((2, 1), (3, 1)), ()).fits((((1, 1), "push"), ((4, 1), "bell"))), True)
        self.assertIs(WindowSight(((2, 1), (3, 1)), ()).fits((((3, 1), "push"),)), False)

    def test_cut(self):
        sight = WindowSight(DAY, self.SEEN, ("hum",))
        for count in (0, 1, 3, 5):
            found = sight.cut(count)
            self.assertIs(type(found), WindowSight)
            self.assertEqual((found.window, found.entries, found.hidden), (DAY, self.SEEN[:count], ("hum",)))


def common(one, other):
    """Have the spans a moment in common? Limits are integers, so one at or just above the greater low limit would do."""
    low = max(one[0][0], other[0][0])
    return any(in_span_oracle((2 * low + half, 2), one) and in_span_oracle((2 * low + half, 2), other) for half in (0, 1))


class TestWatchers(unittest.TestCase):
    def test_texts(self):
        sight = Sight(ENTRIES, ("hum", "creak"))
        self.assertEqual(sight.watcher("sight", ("push", "hum", "creak", "bell", "push", "zap")).text(), "\n".join([
            "gate sight", "clocks t", "state a", "state b", "state c", "state d",
            "step a creak a", "step a hum a", "step a push b when t[1,2)",
            "step b creak b", "step b hum b", "step b bell c when t[0,)",
            "step c creak c", "step c hum c", "step c push d when t(0,5]",
            "step d creak d", "step d hum d", "also bell creak hum push zap", ""]))

    def test_deeds_that_are_missing(self):
        sight = Sight(ENTRIES, ("hum",))
        self.assertEqual(sight.watcher("w", ("push",)).text(), "\n".join([
            "gate w", "clocks t", "state a", "state b", "state c", "state d",
            "step a push b when t[1,2)", "step c push d when t(0,5]", "also push", ""]))
        self.assertEqual(Sight(()).watcher("w", ()).text(), "gate w\nclocks t\nstate a\n")

    def test_rounded_and_bare(self):
        self.assertEqual(RoundedSight(((1, "push"),), rounding="up").watcher("w", ("push",)).steps,
                         (("a", "push", (("t", ((0, 0), (1, 1))),), (), "b"),))
        self.assertEqual(BareSight(("push",)).watcher("w", ("push",)).steps, (("a", "push", (("t", EVER),), (), "b"),))

    def test_windows(self):
        sight = WindowSight(DAY, ((((1, 1), (3, 1)), "push"), (((2, 0), (9, 1)), "bell")), ("hum",))
        self.assertEqual(sight.watcher("w", ("push", "hum", "bell", "bell")).text(), "\n".join([
            "gate w", "clocks t", "state a", "state b", "state c", "step a hum a", "step a bell a when t[0,2)",
            "step a push a when t[0,2)", "step a push b when t[2,3]", "step b hum b", "step b bell c when t(2,4)",
            "step c hum c", "step c bell c when t[4,)", "step c push c when t[4,)", "also bell hum push", ""]))
        self.assertEqual(WindowSight(((0, 0), (3, 1)), ()).watcher("w", ("push",)).text(),
                         "gate w\nclocks t\nstate a\nstep a push a when t[0,0]\nstep a push a when t(3,)\nalso push\n")
        # No moment is earlier than a window from 0 on, and none later than one without an upper limit.
        self.assertEqual(WindowSight(EVER, ()).watcher("w", ("push",)).text(), "gate w\nclocks t\nstate a\nalso push\n")

    def test_too_many(self):
        self.assertEqual(len(BareSight(("push",) * 63).watcher("w", ("push",)).states), 64)
        self.assertEqual(raised(self, InvalidGate, BareSight(("push",) * 64).watcher, "w", ("push",)), {"part": "states", "index": 64})
        deeds = tuple("x" + label(index) for index in range(10))
        sight = BareSight(("push",) * 40, deeds)
        self.assertEqual(raised(self, InvalidGate, sight.watcher, "w", ("push",) + deeds), {"part": "steps", "index": 400})
        self.assertEqual(len(sight.cut(35).watcher("w", ("push",) + deeds).steps), 395)
        wide = WindowSight(DAY, (), ())
        self.assertEqual(len(wide.watcher("w", tuple("x" + label(index) for index in range(200))).steps), 400)
        self.assertEqual(raised(self, InvalidGate, wide.watcher, "w", tuple("x" + label(index) for index in range(201))),
                         {"part": "steps", "index": 400})

    def test_wrong_names(self):
        for sight in (Sight(()), BareSight(("push",)), RoundedSight(()), WindowSight(EVER, ())):
            self.assertEqual(raised(self, InvalidGate, sight.watcher, "W", ("push",)), {"part": "name", "index": 0})

    def test_rows(self):
        chance = seeded(72)
        told = [0, 0]
        deeds = ("push", "bell", "hum")
        for _ in range(120):
            hidden = chance.choice(((), ("hum",), ("bell", "hum"), ("creak",)))
            seen = [deed for deed in deeds if deed not in hidden]
            entries = tuple((random_span(chance, 3), chance.choice(seen)) for _ in range(chance.randint(0, 2)))
            window = chance.choice((None, EVER, random_span(chance, 3)))
            if window is None:
                sight = Sight(entries, hidden)
            else:
                entries = tuple(entry for entry in entries if common(window, entry[0]))
                sight = WindowSight(window, entries, hidden)
            gate = sight.watcher("w", deeds)
            self.assertEqual(gate.clocks, ("t",))
            for _ in range(60):
                row = random_row(chance, chance.randint(0, 4), 2, 3, tuple(seen) * 2 + deeds)
                expected = fits_oracle(entries, hidden, row, window)
                self.assertIs(sight.fits(row), expected)
                ends = [gate.steps[path[-1]][4] if path else "a" for path in paths(gate, row)]
                self.assertIs(label(len(entries)) in ends, expected)
                told[expected] += 1
        self.assertGreater(min(told), 500)


if __name__ == "__main__":
    unittest.main()
