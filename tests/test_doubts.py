"""Point 84: doubts."""

import unittest

from bellrest.doubts import Doubt
from bellrest.errors import InvalidHall, InvalidRow, NotSettled, NothingFits, NothingToUndo
from bellrest.gates import Gate
from bellrest.running import lets
from bellrest.watchers import ban, pace, turns
from helpers import ODD_VALUES, door, near_values, raised, random_row, seeded
from joint import changed_gate, is_extra_on_grid, settled_gates

S = (("s", ()),)
PUSH, LATE = (((1, 1), "push"),), (((3, 1), "push"),)


def renamed(gate, name):
    return Gate(name, gate.clocks, gate.states, gate.steps, gate.also)


def some_doubts(seed, count):
    """Tuples of two to four candidates, some of which often are alike."""
    chance = seeded(seed)
    for gate in settled_gates(seed, count):
        gates = [gate] + [changed_gate(chance, gate) for _ in range(chance.randint(1, 3))]
        gates = [renamed(one, name) for one, name in zip(gates, ("a", "b.c", "d", "e")) if one.is_settled()]
        if len(gates) > 1:
            yield tuple(gates)


class TestDoubts(unittest.TestCase):
    def test_random(self):
        chance = seeded(84)
        words, errors = set(), [0, 0]
        for gates in some_doubts(84, 500):
            doubt, said = Doubt(*gates), []
            for _ in range(8):
                left = [gate for gate in gates if all(lets(gate, row) == is_let for row, is_let in said)]
                self.assertEqual(doubt.remaining(), tuple(gate.name for gate in left))
                row = random_row(chance, chance.randint(0, 3))
                told = {lets(gate, row) for gate in left}
                word = "maybe" if len(told) == 2 else "yes" if True in told else "no"
                self.assertEqual(doubt.ask(row), word)
                words.add(word)
                kind = chance.randint(0, 3)
                if kind == 3:
                    if said:
                        self.assertIsNone(doubt.undo())
                        said.pop()
                    else:
                        self.assertEqual(raised(self, NothingToUndo, doubt.undo), {})
                else:
                    action = doubt.missed if kind == 2 else doubt.saw
                    if (kind != 2) in told:
                        self.assertIsNone(action(row))
                        said.append((row, kind != 2))
                        errors[0] += 1
                    else:
                        self.assertEqual(raised(self, NothingFits, action, row), {"index": len(said)})
                        errors[1] += 1
        self.assertEqual(words, {"yes", "no", "maybe"})
        self.assertGreater(min(errors), 40)

    def test_next_row(self):
        counts = {}
        for gates in some_doubts(85, 500):
            doubt = Doubt(*gates)
            row = doubt.next_row()
            counts[row and len(row)] = counts.get(row and len(row), 0) + 1
            self.assertEqual(doubt.next_row(), row)
            if row is None:
                pairs = [(one, other) for one in gates for other in gates]
                self.assertFalse(any(is_extra_on_grid(one, other, 1) for one, other in pairs))
            else:
                self.assertEqual(doubt.ask(row), "maybe")
                if len(row) == 2:
                    self.assertFalse(any(is_extra_on_grid(one, other, 1) for one in gates for other in gates))
                for action in (doubt.saw, doubt.missed):
                    action(row)
                    self.assertLess(len(doubt.remaining()), len(gates))
                    self.assertGreater(len(doubt.remaining()), 0)
                    doubt.undo()
                self.assertEqual(len(doubt.remaining()), len(gates))
        self.assertGreater(min(counts[None], counts[1], counts[2]), 5)

    def test_rows_lead_to_one_candidate(self):
        gates = (door(), pace("slow", ((3, 1), None), ("push",)), turns("two", ("push", "bell")), ban("none", ("push", "bell")))
        for truth in gates:
            doubt = Doubt(*gates)
            row = doubt.next_row()
            while row is not None:
                (doubt.saw if lets(truth, row) else doubt.missed)(row)
                row = doubt.next_row()
            self.assertEqual(doubt.remaining(), (truth.name,))

    def test_dropped_and_taken_back(self):
        doubt = Doubt(door(), renamed(door(), "same"), pace("slow", ((3, 1), None), ("push",)))
        self.assertEqual(doubt.remaining(), ("door", "same", "slow"))
        self.assertEqual(doubt.ask(PUSH), "maybe")
        doubt.saw(PUSH)
        self.assertEqual(doubt.remaining(), ("door", "same"))
        self.assertEqual(doubt.ask(PUSH), "yes")
        self.assertIsNone(doubt.next_row())
        # Rows that tell nothing new are said as well.
        doubt.saw(PUSH)
        self.assertEqual(raised(self, NothingFits, doubt.missed, PUSH), {"index": 2})
        doubt.undo()
        self.assertEqual(doubt.remaining(), ("door", "same"))
        self.assertEqual(raised(self, NothingFits, doubt.missed, PUSH), {"index": 1})
        doubt.undo()
        doubt.missed(PUSH)
        self.assertEqual(doubt.remaining(), ("slow",))
        self.assertEqual(doubt.ask(LATE), "yes")
        self.assertEqual(raised(self, NothingFits, doubt.missed, LATE), {"index": 1})
        doubt.undo()
        self.assertEqual(raised(self, NothingToUndo, doubt.undo), {})
        self.assertEqual(doubt.remaining(), ("door", "same", "slow"))

    def test_one_candidate(self):
        doubt = Doubt(door())
        self.assertIsNone(doubt.next_row())
        self.assertEqual(doubt.ask(()), "yes")
        self.assertEqual(doubt.ask((((0, 1), "knock"),)), "no")
        self.assertEqual(raised(self, NothingFits, doubt.missed, ()), {"index": 0})
        doubt.saw(())
        self.assertEqual(raised(self, NothingFits, doubt.saw, (((0, 1), "knock"),)), {"index": 1})
        self.assertEqual(doubt.remaining(), ("door",))

    def test_doubts_share_nothing(self):
        gates = (door(), pace("slow", ((3, 1), None), ("push",)))
        one, other = Doubt(*gates), Doubt(*gates)
        names = one.remaining()
        one.saw(PUSH)
        self.assertEqual(other.remaining(), ("door", "slow"))
        self.assertEqual(names, ("door", "slow"))
        self.assertEqual(raised(self, NothingToUndo, other.undo), {})

    def test_wrong_candidates(self):
        unsettled = Gate("u", ("x",), S, (("s", "bell", (), (), "s"),) * 2)
        other = Gate("v", ("x",), S, (("s", "push", (), (), "s"),) * 2)
        self.assertEqual(raised(self, InvalidHall, Doubt), {"index": 0})
        self.assertEqual(raised(self, InvalidHall, Doubt, door(), door()), {"index": 1})
        self.assertEqual(raised(self, InvalidHall, Doubt, unsettled, door(), renamed(door(), "b"), door()), {"index": 3})
        self.assertEqual(raised(self, InvalidHall, Doubt, unsettled, unsettled), {"index": 1})
        self.assertEqual(raised(self, NotSettled, Doubt, door(), unsettled, other), {"state": "s", "deed": "bell"})
        self.assertEqual(raised(self, NotSettled, Doubt, other, unsettled), {"state": "s", "deed": "push"})
        # Names need not be simple, and there may be many candidates.
        many = Doubt(*[renamed(door(), "a." + "b" * number) for number in range(1, 10)])
        self.assertEqual(len(many.remaining()), 9)

    def test_wrong_rows(self):
        doubt = Doubt(door(), pace("slow", ((3, 1), None), ("push",)))
        doubt.saw(LATE)
        rows = list(ODD_VALUES) + list(near_values(PUSH + LATE))
        wrong = 0
        for row in rows:
            for action in (doubt.saw, doubt.missed, doubt.ask):
                try:
                    lets(door(), row)
                except InvalidRow as error:
                    self.assertEqual(raised(self, InvalidRow, action, row), vars(error))
                    wrong += 1
        self.assertGreater(wrong, 100)
        self.assertEqual(doubt.remaining(), ("door", "slow"))
        doubt.undo()
        self.assertEqual(raised(self, NothingToUndo, doubt.undo), {})


if __name__ == "__main__":
    unittest.main()
