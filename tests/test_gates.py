"""Points 31 and 37 and the interface of bellrest/gates.py; its texts are in test_gatetexts.py."""

import copy
import itertools
import unittest

from bellrest.errors import InvalidGate, UnknownName
from bellrest.gates import Gate
from helpers import (ODD_VALUES, door, edge_oracle, in_span_oracle, near_values, random_gate_parts, random_gates, seeded,
                     span_oracle)
from test_names import NAME_OF_200, name_oracle, simple_oracle

PARTS = ("name", "clocks", "states", "steps", "also")
GOOD = (
    "door.one", ("x", "y.z"),
    (("shut", ()), ("ajar", (("x", (2, 1)), ("y.z", (0, 1)))), ("wide.open", (("y.z", (3, 0)),))),
    (("shut", "push", (("x", ((1, 1), None)), ("y.z", ((0, 0), (2, 1)))), ("x",), "ajar"),
     ("ajar", "bell", (), ("y.z", "x"), "shut"), ("shut", "push", (), (), "shut")),
    ("creak", "push"))


def pairs_oracle(clocks, value, good):
    """Is the value a tuple of pairs of different clocks and of something good?"""
    if type(value) is not tuple or any(type(pair) is not tuple or len(pair) != 2 for pair in value):
        return False
    names = [pair[0] for pair in value]
    if any(type(name) is not str or name not in clocks or names.count(name) > 1 for name in names):
        return False
    return all(good(pair[1]) for pair in value)


def stay_edge_oracle(value):
    return edge_oracle(value) and value[0] >= 0 and value != (0, 0)


def item_oracle(part, item, known):
    """Is the item of the part good, beside the parts that are known?"""
    if part == "clocks":
        return name_oracle(item)
    if part == "also":
        return simple_oracle(item)
    if type(item) is not tuple:
        return False
    if part == "states":
        return len(item) == 2 and name_oracle(item[0]) and pairs_oracle(known["clocks"], item[1], stay_edge_oracle)
    if len(item) != 5:
        return False
    names = [name for name, _ in known["states"]]
    source, deed, test, restarts, target = item
    if type(restarts) is not tuple or any(type(one) is not str or one not in known["clocks"] for one in restarts):
        return False
    return (type(source) is str and source in names and type(target) is str and target in names and simple_oracle(deed)
            and pairs_oracle(known["clocks"], test, span_oracle) and len(set(restarts)) == len(restarts))


def fault_oracle(parts):
    """The first fault in the parts of a gate, as the document says, or None."""
    known = dict(zip(PARTS, parts))
    if not name_oracle(known["name"]):
        return "name", 0
    for part, most in (("clocks", 6), ("states", 64), ("steps", 400), ("also", None)):
        items = known[part]
        if type(items) is not tuple or (part in ("clocks", "states") and not items):
            return part, 0
        before = []
        for index, item in enumerate(items):
            if not item_oracle(part, item, known) or (most is not None and index >= most):
                return part, index
            name = item[0] if part == "states" else item
            if part != "steps" and name in before:
                return part, index
            before.append(name)
    return None


def fault_of(parts):
    """The fault that the constructor tells, or None if it makes a gate."""
    try:
        Gate(*parts)
    except InvalidGate as error:
        return error.part, error.index
    return None


class TestConstructor(unittest.TestCase):
    def test_good_gates(self):
        chance = seeded(51)
        for parts in [GOOD] + [random_gate_parts(chance) for _ in range(50)]:
            gate = Gate(*parts)
            self.assertEqual((gate.name, gate.clocks, gate.states, gate.steps, gate.also), parts)
            self.assertIsNone(fault_oracle(parts))

    def test_also_may_be_left_out(self):
        self.assertEqual(Gate("a", ("x",), (("s", ()),), ()).also, ())
        self.assertEqual(Gate("a", ("x",), (("s", ()),), (), also=("bell",)).also, ("bell",))

    def test_values_near_each_part(self):
        seen = set()
        for at, part in enumerate(PARTS):
            for value in itertools.chain(ODD_VALUES, near_values(GOOD[at])):
                parts = GOOD[:at] + (value,) + GOOD[at + 1:]
                before = copy.deepcopy(parts)
                expected = fault_oracle(parts)
                self.assertEqual(fault_of(parts), expected, parts)
                self.assertEqual(repr(parts), repr(before))
                seen.add(expected)
        for fault in [None, ("name", 0)] + [(part, index) for part in ("clocks", "also") for index in (0, 1)] + [
                (part, index) for part in ("states", "steps") for index in (0, 1, 2)]:
            self.assertIn(fault, seen)

    def test_two_parts_wrong_at_once(self):
        wrong = {"name": ("", 5), "clocks": (("x", "x"), ()), "states": ((("shut", ()), None), [("shut", ())]),
                 "steps": ((GOOD[3][0], None), ["no"]), "also": (("a", "a"), None)}
        for one, other in itertools.combinations(range(5), 2):
            for first in wrong[PARTS[one]]:
                for second in wrong[PARTS[other]]:
                    parts = list(GOOD)
                    parts[one], parts[other] = first, second
                    expected = fault_oracle(parts[:other] + list(GOOD[other:]))
                    self.assertEqual(expected[0], PARTS[one])
                    self.assertEqual(fault_of(parts), expected)

    def test_first_wrong_item_counts(self):
        steps = GOOD[3] + (("shut", "push", (), ("x", "x"), "ajar"), ("nowhere", "push", (), (), "ajar"), None)
        self.assertEqual(fault_of(GOOD[:3] + (steps, ())), ("steps", 3))
        states = GOOD[2] + (("shut", ()), ("Bad", ()), 7)
        self.assertEqual(fault_of(GOOD[:2] + (states, ("Bad",), 7)), ("states", 3))
        self.assertEqual(fault_of(GOOD[:4] + (("a", "b", "c", "b", "B"),)), ("also", 3))

    def test_numbers_of_items(self):
        clocks = tuple("abcdefgh")
        for count in range(1, 9):
            self.assertEqual(fault_of(("g", clocks[:count], (("s", ()),), ())), None if count <= 6 else ("clocks", 6))
        letters = "abcdefghijklmnopqrstuvwxyz"
        states = tuple((first + second, ()) for first in letters for second in letters)
        for count, expected in ((1, None), (63, None), (64, None), (65, ("states", 64)), (70, ("states", 64))):
            self.assertEqual(fault_of(("g", ("x",), states[:count], ())), expected)
        for count, expected in ((0, None), (399, None), (400, None), (401, ("steps", 400)), (500, ("steps", 400))):
            self.assertEqual(fault_of(("g", ("x",), states[:1], (("aa", "push", (), (), "aa"),) * count)), expected)
        deeds = tuple(name for name, _ in states)
        self.assertIsNone(fault_of(("g", ("x",), states[:1], (), deeds)))
        self.assertEqual(fault_of(("g", ("x",), states[:1], (), deeds + deeds[:1])), ("also", len(deeds)))
        # An invalid item before the first one that is too many comes first.
        self.assertEqual(fault_of(("g", ("a", "b", "b", "d", "e", "f", "g"), (("s", ()),), ())), ("clocks", 2))

    def test_lengths_of_names(self):
        self.assertIsNone(fault_of((NAME_OF_200, (NAME_OF_200,), ((NAME_OF_200, ()),), ())))
        self.assertEqual(fault_of((NAME_OF_200 + "f", ("x",), (("s", ()),), ())), ("name", 0))
        self.assertIsNone(fault_of(("g", ("x",), (("s", ()),), (("s", "abcdefghijkl", (), (), "s"),))))
        self.assertEqual(fault_of(("g", ("x",), (("s", ()),), (("s", "abcdefghijklm", (), (), "s"),))), ("steps", 0))
        self.assertEqual(fault_of(("g", ("x",), (("s", ()),), (("s", "a.b", (), (), "s"),))), ("steps", 0))

    def test_equal_steps(self):
        step = GOOD[3][0]
        self.assertEqual(Gate(*GOOD[:3], (step, step), ()).steps, (step, step))


class TestAsked(unittest.TestCase):
    def test_deeds(self):
        self.assertEqual(door().deeds, ("bell", "push"))
        self.assertEqual(Gate(*GOOD).deeds, ("bell", "creak", "push"))
        self.assertEqual(Gate("a", ("x",), (("s", ()),), ()).deeds, ())
        self.assertEqual(Gate("a", ("x",), (("s", ()),), (), ("zeal", "ask")).deeds, ("ask", "zeal"))

    def test_ceilings(self):
        self.assertEqual(door().ceilings, (2,))
        self.assertEqual(Gate(*GOOD).ceilings, (2, 3))
        self.assertEqual(Gate("a", ("x", "y"), (("s", ()),), ()).ceilings, (0, 0))
        for test, ceiling in (((("x", ((7, 0), None)),), 7), ((("x", ((0, 1), (9, 0))),), 9), ((("x", ((3, 1), (4, 1))),), 5)):
            gate = Gate("a", ("y", "x"), (("s", (("x", (5, 0)),)),), (("s", "push", test, ("y",), "s"),))
            self.assertEqual(gate.ceilings, (0, max(5, ceiling)))

    def test_ceilings_of_random_gates(self):
        for gate in random_gates(52, 60):
            for number, clock in enumerate(gate.clocks):
                limits = [0]
                for _, stay in gate.states:
                    limits += [edge[0] for name, edge in stay if name == clock]
                for _, _, test, _, _ in gate.steps:
                    limits += [edge[0] for name, span in test if name == clock for edge in span if edge]
                self.assertEqual(gate.ceilings[number], max(limits))

    def test_by_name(self):
        gate = Gate(*GOOD)
        self.assertEqual([gate.clock_number(clock) for clock in gate.clocks], [1, 2])
        self.assertEqual([gate.state_index(state) for state, _ in gate.states], [0, 1, 2])
        self.assertEqual([gate.stay_of(state) for state, _ in gate.states], [stay for _, stay in gate.states])
        self.assertEqual([gate.steps_from(state) for state, _ in gate.states], [(0, 2), (1,), ()])

    def test_unknown_names(self):
        gate = Gate(*GOOD)
        for name in ("", "door.one", "push", "z", "y", "SHUT", "shut ", "creak", None, 1, ("shut",)):
            for work in (gate.clock_number, gate.state_index, gate.stay_of, gate.steps_from):
                with self.assertRaises(UnknownName) as caught:
                    work(name)
                self.assertEqual(caught.exception.name, name)
        for work, name in ((gate.clock_number, "shut"), (gate.state_index, "x"), (gate.stay_of, "x"), (gate.steps_from, "x")):
            with self.assertRaises(UnknownName):
                work(name)

    def test_never_changes(self):
        gate = Gate(*GOOD)
        before = copy.deepcopy(vars(gate))
        gate.text(), gate.overlap(), gate.is_settled(), gate.deeds, gate.ceilings, gate.stay_of("ajar"), gate.steps_from("shut")
        self.assertEqual(vars(gate), before)
        for name in ("deeds", "ceilings"):
            self.assertIsInstance(vars(Gate)[name], property)
            with self.assertRaises(AttributeError):
                setattr(gate, name, ())

    def test_no_equality_of_its_own(self):
        self.assertNotEqual(door(), door())
        self.assertNotIn("__eq__", vars(Gate))
        self.assertNotIn("__hash__", vars(Gate))


def overlap_oracle(gate):
    """The least pair of steps that overlap, by trying readings in halves of an hour."""
    halves = [(number, 2) if number % 2 else (number // 2, 1) for number in range(20)]
    for i, one in enumerate(gate.steps):
        for j, other in enumerate(gate.steps):
            if i < j and one[0] == other[0] and one[1] == other[1]:
                if all(any(in_span_oracle(moment, dict(one[2]).get(clock, ((0, 1), None)))
                           and in_span_oracle(moment, dict(other[2]).get(clock, ((0, 1), None))) for moment in halves)
                       for clock in gate.clocks):
                    return i, j
    return None


class TestSettled(unittest.TestCase):
    def gate_with(self, *steps):
        return Gate("g", ("x", "y"), (("s", (("x", (1, 1)),)), ("t", ())), steps)

    def check_overlap(self, steps, pair):
        gate = self.gate_with(*steps)
        self.assertEqual(gate.overlap(), pair)
        self.assertIs(gate.is_settled(), pair is None)

    def test_touching(self):
        for high, low, pair in (((2, 1), (2, 1), (0, 1)), ((2, 1), (2, 0), None), ((2, 0), (2, 1), None), ((2, 0), (2, 0), None),
                                ((2, 0), (1, 0), (0, 1)), ((3, 1), (2, 0), (0, 1)), ((1, 1), (2, 1), None)):
            steps = (("s", "push", (("x", ((0, 1), high)),), (), "s"), ("s", "push", (("x", (low, None)),), ("x",), "t"))
            self.check_overlap(steps, pair)
            self.check_overlap(steps[::-1], pair)

    def test_sources_and_deeds(self):
        self.check_overlap((), None)
        self.check_overlap((("s", "push", (), (), "s"),), None)
        self.check_overlap((("s", "push", (), (), "s"), ("t", "push", (), (), "s")), None)
        self.check_overlap((("s", "push", (), (), "s"), ("s", "bell", (), (), "s")), None)
        self.check_overlap((("s", "push", (), (), "s"), ("s", "push", (), (), "s")), (0, 1))
        self.check_overlap((("s", "push", (), (), "s"), ("s", "push", (), ("x",), "t")), (0, 1))

    def test_different_clocks(self):
        one, other = ("x", ((0, 1), (1, 1))), ("y", ((5, 1), None))
        self.check_overlap((("s", "push", (one,), (), "s"), ("s", "push", (other,), (), "s")), (0, 1))
        apart = ("x", ((2, 1), None))
        self.check_overlap((("s", "push", (one, other), (), "s"), ("s", "push", (other, apart), (), "s")), None)
        self.check_overlap((("s", "push", (one, other), (), "s"), ("s", "push", (other, one), (), "s")), (0, 1))

    def test_stays_do_not_matter(self):
        late = (("x", ((8, 1), None)),)
        self.check_overlap((("s", "push", late, (), "s"), ("s", "push", late, (), "s")), (0, 1))

    def test_least_pair(self):
        early, late = (("x", ((0, 1), (1, 1))),), (("x", ((2, 1), None)),)
        self.check_overlap((("s", "push", early, (), "s"), ("t", "bell", (), (), "s"), ("t", "bell", (), (), "s"),
                            ("s", "push", late, (), "s"), ("s", "push", late, (), "s")), (1, 2))
        self.check_overlap((("s", "push", early, (), "s"), ("s", "push", late, (), "s"), ("t", "bell", (), (), "s"),
                            ("t", "bell", (), (), "s"), ("s", "push", (), (), "s")), (0, 4))

    def test_random_gates(self):
        told = []
        for gate in random_gates(53, 200):
            self.assertEqual(gate.overlap(), overlap_oracle(gate))
            self.assertIs(gate.is_settled(), overlap_oracle(gate) is None)
            told.append(gate.is_settled())
        self.assertIn(True, told)
        self.assertIn(False, told)
        self.assertIs(door().is_settled(), True)


if __name__ == "__main__":
    unittest.main()
