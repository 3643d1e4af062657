"""Points 100 to 103: cases."""

import itertools
import unittest

from bellrest.cases import Case, fact_holds, is_fact
from bellrest.errors import (
    Contradiction, InvalidFact, InvalidSight, NothingFits, NothingToRedo, NothingToUndo)
from bellrest.fitting import could, states_after
from bellrest.gates import Gate
from bellrest.pathtables import path_conditions
from bellrest.plain import grid_rows
from bellrest.running import is_run, paths
from bellrest.shutting import shut
from bellrest.sights import BareSight, RoundedSight, Sight, WindowSight
from bellrest.spans import EVER, span_cover
from bellrest.surely import bare_rows
from bellrest.tables import all_zero, table_with
from helpers import (
    ODD_VALUES, check_judge, connected_tables, door, fraction, in_span_oracle, near_values, raised, random_gates, random_span, seeded,
    span_oracle, walked)

S = (("s", ()),)
# Two ways to go and two clocks; the one way needs the other one before.
PAIR = Gate("pair", ("x", "y"), (("a", ()), ("b", (("x", (2, 1)),)), ("c", ())),
            (("a", "go", (("x", ((1, 1), None)),), ("x",), "b"), ("b", "go", (), ("y",), "a"), ("b", "stop", (("y", ((3, 0), None)),), (), "c"),
             ("a", "stop", (("x", ((0, 1), (1, 0))),), (), "c"), ("c", "go", (), ("x", "y"), "a")))


def states_along(gate, path):
    return [gate.states[0][0]] + [gate.steps[step][4] for step in path]


def restarts_before(gate, path, index, clock):
    """The number of the last entry before the one at the index that restarts the clock, or 0."""
    return max([number for number in range(1, index + 1) if clock in gate.steps[path[number - 1]][3]], default=0)


def places_of(gate, path, fact):
    """The numbers of the two moments whose distance the fact tells."""
    if fact[0] == "moment":
        return 0, fact[1] + 1
    if fact[0] == "gap":
        return fact[1] + 1, fact[2] + 1
    return restarts_before(gate, path, fact[1], fact[2]), fact[1] + 1


def plain_table(gate, path, facts):
    """The shut table of the runs with the path that meet the facts and end at the last moment, or None."""
    conditions = path_conditions(gate, path, ())
    if conditions is None:
        return None
    last = len(path)
    conditions.append((last + 1, last, (0, 1)))
    for fact in facts:
        if fact[0] == "state":
            if states_along(gate, path)[fact[1]] not in fact[2]:
                return None
        elif fact[0] == "deed":
            if gate.steps[path[fact[1]]][1] not in fact[2]:
                return None
        else:
            low, high = fact[-1]
            first, second = places_of(gate, path, fact)
            conditions += [(second, first, high), (first, second, (-low[0], low[1]))]
    return shut(table_with(last + 1, *conditions))


def remaining(gate, length, facts):
    """The tables of the remaining runs, by ascending paths."""
    found = {}
    for path in sorted(path for path in connected_tables(gate, length) if len(path) == length):
        table = plain_table(gate, path, facts)
        if table is not None:
            found[path] = table
    return found


def gap_span(table, first, second):
    low = table[first][second]
    return (-low[0], low[1]), table[second][first]


def closed_oracle(gate, length, left):
    """What point 102 says of the closed lot, from the tables of all paths."""
    names = [state for state, _ in gate.states]

    def state(count):
        return "state", count, tuple(name for name in names if any(states_along(gate, path)[count] == name for path in left))

    def covered(*fact):
        return (*fact, span_cover(*[gap_span(table, *places_of(gate, path, fact)) for path, table in left.items()]))

    found = [state(0)]
    for k in range(length):
        found.append(("deed", k, tuple(sorted({gate.steps[path[k]][1] for path in left}))))
        found.append(covered("moment", k))
        found.extend(covered("clock", k, clock) for clock in gate.clocks)
        found.extend(covered("gap", j, k) for j in range(k))
        found.append(state(k + 1))
    return tuple(found)


def ask_oracle(gate, fact, left):
    told = set()
    for path, table in left.items():
        if fact[0] == "state":
            told.add(states_along(gate, path)[fact[1]] in fact[2])
        elif fact[0] == "deed":
            told.add(gate.steps[path[fact[1]]][1] in fact[2])
        else:
            values, span = gap_span(table, *places_of(gate, path, fact)), fact[-1]
            told |= {True} if span_cover(values, span) == span else set()
            told |= {False} if plain_table_meets(table, places_of(gate, path, fact), span) is None else set()
            if span_cover(values, span) != span and plain_table_meets(table, places_of(gate, path, fact), span) is not None:
                told |= {True, False}
    return "sometimes" if len(told) == 2 else "always" if True in told else "never"


def plain_table_meets(table, places, span):
    """The table cut to the span between two moments, or None."""
    (first, second), (low, high) = places, span
    rows = [list(row) for row in table]
    for i, j, cap in ((second, first, high), (first, second, (-low[0], low[1]))):
        if cap is not None and (rows[i][j] is None or cap < rows[i][j]):
            rows[i][j] = cap
    return shut(tuple(map(tuple, rows)))


def random_fact(chance, gate, length):
    kind = chance.randint(0, 4 if length else 0)
    names = [state for state, _ in gate.states]
    if kind == 0:
        return "state", chance.randint(0, length), tuple(chance.sample(names, chance.randint(1, len(names))))
    index = chance.randrange(length)
    if kind == 1:
        return "deed", index, tuple(chance.sample(gate.deeds, chance.randint(1, len(gate.deeds))))
    span = random_span(chance, 4)
    if kind == 2 and index > 0:
        return "gap", chance.randrange(index), index, span
    if kind == 3:
        return "clock", index, chance.choice(gate.clocks), span
    return "moment", index, span


def cases_for(seed, count, most=3):
    """Gates with steps, and lengths of which they let rows."""
    chance = seeded(seed)
    for gate in random_gates(seed, count):
        length = chance.randint(0, most)
        if gate.steps and (length == 0 or bare_rows(gate, length)):
            yield gate, length, chance


class TestConstructor(unittest.TestCase):
    def test_nothing_fits(self):
        told = {}
        for gate in random_gates(100, 300):
            counts = [len(bare_rows(gate, length)) for length in range(5)]
            for length in range(5):
                if counts[length]:
                    case = Case(gate, length)
                    self.assertEqual((case.gate, case.length, case.facts()), (gate, length, ()))
                else:
                    self.assertEqual(raised(self, NothingFits, Case, gate, length), {"index": counts.index(0)})
                    told[counts.index(0)] = told.get(counts.index(0), 0) + 1
        self.assertGreater(min(told[1], told[2]), 10)

    def test_long_cases(self):
        self.assertEqual(Case(door(), 10).paths_left(), ((0, 1) * 5,))
        gate = Gate("g", ("x",), (("a", (("x", (3, 1)),)),), (("a", "go", (("x", ((1, 1), None)),), (), "a"), ("a", "go", (("x", ((1, 1), (1, 1))),), (), "a"),
                                                            ("a", "stop", (("x", ((0, 1), (2, 0))),), (), "a")))
        case = Case(gate, 10)
        self.assertIsNone(case.tell(("gap", 0, 9, ((3, 1), (3, 1)))))
        self.assertEqual(case.ask(("deed", 9, ("stop",))), "never")
        self.assertEqual(case.ask(("moment", 0, ((0, 1), (0, 1)))), "always")
        self.assertEqual(case.ask(("deed", 5, ("go",))), "sometimes")
        self.assertEqual(raised(self, Contradiction, case.tell, ("clock", 3, "x", ((4, 1), None))), {"core": (1,)})

    def test_no_steps(self):
        gate = Gate("g", ("x",), S, (), ("go",))
        self.assertEqual(Case(gate, 0).paths_left(), ((),))
        for length in range(1, 11):
            self.assertEqual(raised(self, NothingFits, Case, gate, length), {"index": 1})


class TestFacts(unittest.TestCase):
    def oracle(self, gate, length, value):
        def index(item, count):
            return type(item) is int and 0 <= item < count

        def names(item, known):
            return type(item) is tuple and item != () and all(type(name) is str and name in known and item.count(name) == 1 for name in item)

        if type(value) is not tuple or len(value) not in (3, 4) or type(value[0]) is not str:
            return False
        if value[0] == "state":
            return len(value) == 3 and index(value[1], length + 1) and names(value[2], [state for state, _ in gate.states])
        if value[0] == "deed":
            return len(value) == 3 and index(value[1], length) and names(value[2], gate.deeds)
        if value[0] == "moment":
            return len(value) == 3 and index(value[1], length) and span_oracle(value[2])
        if value[0] == "gap":
            return len(value) == 4 and index(value[2], length) and index(value[1], value[2]) and span_oracle(value[3])
        return value[0] == "clock" and len(value) == 4 and index(value[1], length) and value[2] in gate.clocks and span_oracle(value[3])

    def test_judge(self):
        facts = [("state", 0, ("a",)), ("state", 2, ("c", "a", "b")), ("deed", 1, ("stop",)), ("deed", 0, ("stop", "go")), ("moment", 1, ((0, 1), (1, 0))),
                 ("moment", 0, EVER), ("gap", 0, 1, EVER), ("gap", 0, 1, ((2, 1), (2, 1))), ("clock", 1, "y", EVER), ("clock", 0, "x", ((1, 0), None))]
        check_judge(self, lambda value: is_fact(PAIR, 2, value), facts, lambda value: self.oracle(PAIR, 2, value))

    def test_lengths(self):
        for length in range(4):
            for count in range(-1, 5):
                self.assertIs(is_fact(PAIR, length, ("state", count, ("a",))), 0 <= count <= length)
                self.assertIs(is_fact(PAIR, length, ("deed", count, ("go",))), 0 <= count < length)
                self.assertIs(is_fact(PAIR, length, ("moment", count, EVER)), 0 <= count < length)
                self.assertIs(is_fact(PAIR, length, ("clock", count, "x", EVER)), 0 <= count < length)
                for other in range(-1, 5):
                    self.assertIs(is_fact(PAIR, length, ("gap", count, other, EVER)), 0 <= count < other < length)

    def test_fact_holds(self):
        told = [0, 0]
        for gate, length, chance in cases_for(101, 250):
            rows = list(itertools.islice(grid_rows(gate, length, 2, 3), 40))
            for row in rows[::5]:
                for path in paths(gate, row)[:2]:
                    run = (row, path, (0, 1))
                    for _ in range(6):
                        fact = random_fact(chance, gate, length)
                        expected = self.holds(gate, fact, row, path)
                        self.assertIs(fact_holds(gate, fact, run), expected)
                        told[expected] += 1
        self.assertGreater(min(told), 200)

    def holds(self, gate, fact, row, path):
        if fact[0] == "state":
            return walked(gate, (row[:fact[1]], path[:fact[1]], (0, 1)))[1].state in fact[2]
        if fact[0] == "deed":
            return row[fact[1]][1] in fact[2]
        if fact[0] == "moment":
            return in_span_oracle(row[fact[1]][0], fact[2])
        if fact[0] == "gap":
            gap = fraction(row[fact[2]][0]) - fraction(row[fact[1]][0])
            return in_span_oracle((gap.numerator, gap.denominator), fact[3])
        before = row[:fact[1]]
        rest = fraction(row[fact[1]][0]) - (fraction(before[-1][0]) if before else 0)
        walk = walked(gate, (before, path[:fact[1]], (rest.numerator, rest.denominator)))[1]
        return in_span_oracle(walk.standing()[1][gate.clocks.index(fact[2])], fact[3])


class TestCases(unittest.TestCase):
    def check(self, case, facts, chance=None):
        """Check all that the case says, if these facts are told."""
        gate, length = case.gate, case.length
        left = remaining(gate, length, facts)
        self.assertEqual(case.facts(), tuple(facts))
        self.assertEqual(case.paths_left(), tuple(left))
        self.assertEqual(case.closed(), closed_oracle(gate, length, left))
        for path in connected_tables(gate, length):
            self.assertEqual(case.table(path), left.get(path))
        run = case.example()
        self.assertEqual(case.example(), run)
        self.assertIs(is_run(gate, run), True)
        self.assertEqual((len(run[0]), run[2]), (length, (0, 1)))
        self.assertTrue(all(fact_holds(gate, fact, run) for fact in facts))
        self.assertIn(run[1], left)
        for fact in case.closed() + tuple(facts):
            self.assertIs(is_fact(gate, length, fact), True)
            self.assertEqual(case.ask(fact), "always")
        words = []
        for _ in range(4 if chance else 0):
            fact = random_fact(chance, gate, length)
            words.append(case.ask(fact))
            self.assertEqual(words[-1], ask_oracle(gate, fact, left))
        self.assertEqual(case.facts(), tuple(facts))
        return words

    def check_core(self, case, facts, fact, core):
        told = facts + [fact]
        self.assertEqual(core, tuple(sorted(set(core))))
        self.assertEqual(core[-1], len(facts))
        self.assertEqual(remaining(case.gate, case.length, [told[number] for number in core]), {})
        for one in core:
            self.assertNotEqual(remaining(case.gate, case.length, [told[number] for number in core if number != one]), {})

    def test_random(self):
        words, cores = set(), {}
        for gate, length, chance in cases_for(102, 260):
            case, facts = Case(gate, length), []
            for _ in range(5):
                fact = random_fact(chance, gate, length)
                if remaining(gate, length, facts + [fact]):
                    self.assertIsNone(case.tell(fact))
                    facts.append(fact)
                else:
                    core = raised(self, Contradiction, case.tell, fact)["core"]
                    self.check_core(case, facts, fact, core)
                    cores[len(core)] = cores.get(len(core), 0) + 1
            words.update(self.check(case, facts, chance))
        self.assertEqual(words, {"always", "never", "sometimes"})
        self.assertGreater(min(cores[1], cores[2]), 10)
        self.assertIn(3, cores)

    def test_changes(self):
        # Against a list of the lists of facts that were there.
        for gate, length, chance in cases_for(103, 120, 2):
            case = Case(gate, length)
            states, at = [[]], 0
            for _ in range(14):
                facts = states[at]
                kind = chance.randint(0, 5)
                if kind <= 2:
                    fact = random_fact(chance, gate, length)
                    if remaining(gate, length, facts + [fact]):
                        self.assertIsNone(case.tell(fact))
                        states, at = states[:at + 1] + [facts + [fact]], at + 1
                    else:
                        self.check_core(case, facts, fact, raised(self, Contradiction, case.tell, fact)["core"])
                elif kind == 3:
                    number = chance.randint(-1, len(facts))
                    if 0 <= number < len(facts):
                        self.assertIsNone(case.forget(number))
                        states, at = states[:at + 1] + [facts[:number] + facts[number + 1:]], at + 1
                    else:
                        self.assertEqual(raised(self, InvalidFact, case.forget, number), {"value": number})
                elif kind == 4:
                    if at:
                        self.assertIsNone(case.undo())
                        at -= 1
                    else:
                        self.assertEqual(raised(self, NothingToUndo, case.undo), {})
                elif at < len(states) - 1:
                    self.assertIsNone(case.again())
                    at += 1
                else:
                    self.assertEqual(raised(self, NothingToRedo, case.again), {})
                self.assertEqual(case.facts(), tuple(states[at]))
            self.check(case, states[at])

    def test_length_zero(self):
        gate = Gate("g", ("x",), (("a", (("x", (1, 1)),)), ("b", ())), (("a", "go", (), (), "b"),))
        case = Case(gate, 0)
        self.assertEqual(case.closed(), (("state", 0, ("a",)),))
        self.assertEqual((case.paths_left(), case.example()), (((),), ((), (), (0, 1))))
        self.assertEqual(case.table(()), all_zero(1))
        self.assertIsNone(case.table((0,)))
        self.assertEqual(case.ask(("state", 0, ("b",))), "never")
        self.assertEqual(raised(self, Contradiction, case.tell, ("state", 0, ("b",))), {"core": (0,)})
        case.tell(("state", 0, ("b", "a")))
        self.check(case, [("state", 0, ("b", "a"))])
        self.assertEqual(raised(self, InvalidFact, case.tell, ("moment", 0, EVER)), {"value": ("moment", 0, EVER)})

    def test_the_same_fact_twice(self):
        case = Case(door(), 2)
        fact = ("moment", 0, ((1, 1), (2, 0)))
        case.tell(fact)
        case.tell(fact)
        self.check(case, [fact, fact])
        other = ("moment", 0, ((2, 1), None))
        core = raised(self, Contradiction, case.tell, other)["core"]
        self.assertIn(core, ((0, 2), (1, 2)))
        case.forget(0)
        self.assertEqual(case.facts(), (fact,))
        self.assertEqual(raised(self, Contradiction, case.tell, other), {"core": (0, 1)})
        case.forget(0)
        case.tell(other)
        self.check(case, [other])

    def test_forgotten_and_brought_back(self):
        case = Case(PAIR, 3)
        facts = [("state", 1, ("b",)), ("gap", 0, 2, ((1, 1), (3, 0))), ("clock", 1, "y", ((2, 1), None))]
        for fact in facts:
            case.tell(fact)
        self.check(case, facts)
        case.forget(1)
        self.check(case, [facts[0], facts[2]])
        case.undo()
        self.check(case, facts)
        case.again()
        self.assertEqual(case.facts(), (facts[0], facts[2]))
        case.undo()
        case.undo()
        self.check(case, facts[:2])
        # A fact that contradicts changes nothing: what was taken back can still be done again.
        self.assertEqual(raised(self, Contradiction, case.tell, ("state", 1, ("c",))), {"core": (0, 2)})
        self.assertEqual(raised(self, InvalidFact, case.tell, ("state", 1, ())), {"value": ("state", 1, ())})
        self.assertEqual(raised(self, InvalidFact, case.forget, 2), {"value": 2})
        case.again()
        self.check(case, facts)
        case.again()
        self.assertEqual(case.facts(), (facts[0], facts[2]))
        self.assertEqual(raised(self, NothingToRedo, case.again), {})
        case.undo()
        case.forget(2)
        self.assertEqual(raised(self, NothingToRedo, case.again), {})

    def test_cores(self):
        case = Case(PAIR, 3)
        self.assertEqual(raised(self, Contradiction, case.tell, ("state", 0, ("c", "b"))), {"core": (0,)})
        case.tell(("moment", 2, ((0, 1), (9, 1))))
        case.tell(("gap", 0, 1, ((1, 1), None)))
        case.tell(("deed", 0, ("go", "stop")))
        case.tell(("gap", 1, 2, ((4, 1), None)))
        self.assertEqual(raised(self, Contradiction, case.tell, ("gap", 0, 2, ((0, 1), (5, 0)))), {"core": (1, 3, 4)})
        self.assertEqual(raised(self, Contradiction, case.tell, ("moment", 0, ((9, 0), None))), {"core": (0, 4)})
        self.assertEqual(len(case.facts()), 4)

    def test_cases_share_nothing(self):
        one, other = Case(door(), 2), Case(door(), 2)
        before = one.facts(), one.closed()
        one.tell(("moment", 0, ((1, 1), (1, 1))))
        self.assertEqual((other.facts(), other.closed()), before)
        self.assertEqual(raised(self, NothingToUndo, other.undo), {})
        self.assertNotEqual(one.closed(), other.closed())

    def test_what_matters_of_the_past(self):
        # Each way to begin leads to one state with x at zero; only what a fact tells of the time before tells them apart.
        steps = (("s", "go", (("x", ((0, 1), (1, 1))),), ("x",), "t"), ("s", "go", (("x", ((3, 1), None)),), ("x",), "t"),
                 ("t", "stop", (("x", ((0, 1), (0, 1))),), (), "t"))
        gate = Gate("g", ("x",), (("s", ()), ("t", ())), steps)
        longer = Gate("h", ("x",), (("r", ()), ("s", ()), ("t", ())), (("r", "come", (), ("x",), "s"), *steps))
        for fact, path in ((("moment", 1, ((5, 1), (5, 1))), (1, 2)), (("moment", 1, ((0, 1), (1, 0))), (0, 2))):
            case = Case(gate, 2)
            case.tell(fact)
            self.assertEqual(case.paths_left(), (path,))
            self.check(case, [fact])
        for fact, path in ((("gap", 0, 2, ((4, 0), None)), (0, 2, 3)), (("gap", 0, 2, ((0, 1), (1, 0))), (0, 1, 3))):
            case = Case(longer, 3)
            case.tell(fact)
            self.assertEqual(case.paths_left(), (path,))
            self.check(case, [fact])

    def test_tables(self):
        case = Case(door(), 1)
        self.assertEqual(case.table((0,)), (((0, 1), (-1, 1), (-1, 1)), (None, (0, 1), (0, 1)), (None, (0, 1), (0, 1))))
        for path in ((), (1,), (0, 1), (0, 0)):
            self.assertIsNone(case.table(path))

    def test_wrong_facts(self):
        case = Case(PAIR, 2)
        case.tell(("moment", 0, EVER))
        wrong = [value for value in list(ODD_VALUES) + list(near_values(("gap", 0, 1, EVER))) + list(near_values(("deed", 0, ("go",))))
                 if not is_fact(PAIR, 2, value)]
        for value in wrong:
            self.assertEqual(raised(self, InvalidFact, case.tell, value), {"value": value})
            self.assertEqual(raised(self, InvalidFact, case.ask, value), {"value": value})
        for value in ODD_VALUES:
            if value != 0 or type(value) is not int:
                self.assertEqual(raised(self, InvalidFact, case.forget, value), {"value": value})
        self.assertEqual(case.facts(), (("moment", 0, EVER),))
        case.forget(0)
        for value in ODD_VALUES:
            self.assertEqual(raised(self, InvalidFact, case.forget, value), {"value": value})


class TestSeen(unittest.TestCase):
    def test_random(self):
        told = [0, 0]
        for gate, length, chance in cases_for(104, 300):
            deeds = [chance.choice(gate.deeds) for _ in range(length)]
            kind = chance.randint(0, 2)
            if kind == 0:
                sight = BareSight(tuple(deeds))
            elif kind == 1:
                sight = RoundedSight(tuple(zip(sorted(chance.randint(0, 3) for _ in deeds), deeds)), rounding=chance.choice(("down", "up")))
            else:
                sight = Sight(tuple((random_span(chance, 3), deed) for deed in deeds))
            facts = [fact for index, (span, deed) in enumerate(sight.entries) for fact in (("deed", index, (deed,)), ("moment", index, span))]
            if could(gate, sight) is None:
                core = raised(self, Contradiction, Case.seen, gate, sight)["core"]
                self.assertFalse(remaining(gate, length, [facts[number] for number in core]))
                for one in core:
                    self.assertTrue(remaining(gate, length, [facts[number] for number in core if number != one]))
            else:
                case = Case.seen(gate, sight)
                self.assertEqual((case.gate, case.length, case.facts()), (gate, length, tuple(facts)))
                self.assertEqual(case.closed(), closed_oracle(gate, length, remaining(gate, length, facts)))
                self.assertEqual(case.closed()[-1][2], states_after(gate, sight))
                for count in range(len(facts), 0, -1):
                    self.assertEqual(case.facts(), tuple(facts[:count]))
                    case.undo()
                self.assertEqual(raised(self, NothingToUndo, case.undo), {})
            told[could(gate, sight) is None] += 1
        self.assertGreater(min(told), 50)

    def test_errors(self):
        late = RoundedSight(((1, "push"), (4, "bell")))
        self.assertEqual(raised(self, Contradiction, Case.seen, door(), late), {"core": (1, 3)})
        self.assertEqual(raised(self, NothingFits, Case.seen, Gate("g", ("x",), S, ()), late), {"index": 1})
        for sight in (BareSight(("push", "bell"), ("knock",)), WindowSight(EVER, late.entries), Sight(late.entries, ("hum",)), WindowSight(EVER, late.entries, ("hum",))):
            self.assertEqual(raised(self, InvalidSight, Case.seen, door(), sight), {"index": 2})
            self.assertEqual(raised(self, InvalidSight, Case.seen, Gate("g", ("x",), S, ()), sight), {"index": 2})
        self.assertEqual(raised(self, InvalidSight, Case.seen, door(), WindowSight(EVER, ())), {"index": 0})
        self.assertEqual(raised(self, InvalidFact, Case.seen, door(), BareSight(("push", "knock"))), {"value": ("deed", 1, ("knock",))})
        self.assertEqual(raised(self, Contradiction, Case.seen, door(), BareSight(("bell", "knock"))), {"core": (0,)})
        self.assertEqual(Case.seen(door(), BareSight(())).facts(), ())


if __name__ == "__main__":
    unittest.main()
