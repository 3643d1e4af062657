"""The promises that tie the files together, for many gates made from fixed seeds (points 1 to 6 and those that are named below)."""

import copy
import unittest

from bellrest.alike import alike, alike_states, bare_parting, begun_at, parting_row
from bellrest.bench import Bench, tried
from bellrest.cases import Case, fact_holds
from bellrest.doubts import Doubt
from bellrest.errors import BellError, InvalidHall, NotSettled, NothingFits, TooMany
from bellrest.fitting import could, first_wrong, states_after, watched, wrong_patches
from bellrest.gates import Gate
from bellrest.goals import goal_ceilings, is_goal, meets
from bellrest.halls import Hall
from bellrest.hands import edge_from, hours_table, is_hours_table
from bellrest.hanging import hang_run, stuck, stuck_spots
from bellrest.hurrying import calm_ranks, hurry, hurry_run, is_calm
from bellrest.kinds import is_kind, kind_of
from bellrest.kindtables import kind_table, kinds_of
from bellrest.leading import is_plan, is_trap, plan, trap
from bellrest.looks import fewest_looks
from bellrest.lots import Lot
from bellrest.moves import cut, earlier, inside, later, meet, release, restart, widen
from bellrest.patches import avoids, is_closed_patches
from bellrest.pathtables import path_table, run_of
from bellrest.plain import grid_bare, grid_rows
from bellrest.points import near, point
from bellrest.reach import find, never
from bellrest.running import is_run, is_standing, lets, paths, standing_after, standings
from bellrest.shutting import is_ring, is_shut, is_way, ring, shut, way
from bellrest.sights import BareSight, RoundedSight, Sight
from bellrest.slack import rest_spans, slack
from bellrest.spans import in_span, span_cover
from bellrest.spots import is_closed_spots, is_spot, met_spots, moves_to, run_of_moves, spot_of
from bellrest.surely import bare_rows, how_many, moment_span, passage, surely
from bellrest.tables import cap_allows, keeps, table_with
from bellrest.timing import between, first_span, late_run, longest_without, soon_run, soonest
from bellrest.trimming import trimmed, unmet_states, unused_steps
from bellrest.within import extra_row, is_within_table, within_table
from fits import random_sights
from helpers import (
    DEEDS, connected_tables, end_of, fraction, larger_gate, raised, random_gate_parts, random_goal, random_moment, random_row,
    random_span, random_table, seeded)
from joint import changed_gate

def gates_for(seed, count):
    """Half of them small and half of them larger, and something to choose by."""
    chance = seeded(f"whole {seed}")
    for number in range(count):
        gate = Gate(*random_gate_parts(chance)) if number % 2 else larger_gate(chance)
        yield gate, chance


def seen_by(chance, gate, row):
    """A sight that the row fits."""
    hours = [int(fraction(moment)) for moment, _ in row]
    deeds = [deed for _, deed in row]
    kind = chance.randint(0, 2)
    if kind == 0:
        return BareSight(tuple(deeds))
    if kind == 1:
        return RoundedSight(tuple(zip(hours, deeds)))
    return Sight(tuple((((max(0, hour - 1), 1), (hour + 1, 1)), deed) for hour, deed in zip(hours, deeds)))


def joined_with(first, second, lift=None):
    """The items of the first certificate and those of the second one for other spots; numbers there are lifted."""
    if lift is None:
        return first + second
    known = {item[0] for item in first}
    return first + tuple(lift(item) for item in second if item[0] not in known)


class Base(unittest.TestCase):
    def twice(self, function, *arguments):
        """Equal calls return equal values, and no call changes its arguments."""
        before = copy.deepcopy([argument for argument in arguments if isinstance(argument, tuple)])
        told = function(*arguments)
        self.assertEqual(repr(function(*arguments)), repr(told))
        self.assertEqual(before, [argument for argument in arguments if isinstance(argument, tuple)])
        return told

    def judged(self, judge, value, *arguments):
        """The judge takes the value, whatever the order of its items."""
        self.assertIs(judge(*arguments, value), True)
        self.assertIs(judge(*arguments, value[::-1]), True)
        self.assertIs(judge(*arguments, list(value)), False)
        self.assertIs(judge(*arguments, value + (None,)), False)


class TestTables(Base):
    """Points 23 to 27."""

    def test_lots_of_gates(self):
        # What runs lead to, by moves of tables and by tables of paths.
        for gate, chance in gates_for(25, 250):
            for path, table in list(connected_tables(gate, 2).items())[:12]:
                run = run_of(gate, path)
                self.assertIs(is_run(gate, run), True)
                state, readings = standing_after(gate, run)
                self.assertIs(keeps(table, tuple(moment for moment, _ in run[0]) + (self.end(run),)), True)
                self.check_moves(gate, chance, state, readings)

    def end(self, run):
        end = end_of(run)
        return end.numerator, end.denominator

    def check_moves(self, gate, chance, state, readings):
        kind = kind_of(readings, gate.ceilings)
        table = kind_table(kind, gate.ceilings)
        self.assertEqual(kinds_of(table, gate.ceilings), (kind,))
        lot = Lot(len(gate.clocks), table)
        clocks = tuple(chance.sample(range(1, len(gate.clocks) + 1), chance.randint(0, len(gate.clocks))))
        rested = tuple((reading[0] + reading[1], reading[1]) for reading in readings)
        zeroed = tuple((0, 1) if number in clocks else reading for number, reading in enumerate(readings, 1))
        for moved, other in ((later, lot.later()), (earlier, lot.earlier())):
            self.assertEqual(Lot(len(gate.clocks), moved(table)).tables(), other.tables())
        self.assertIs(keeps(later(table), rested), True)
        self.assertIs(keeps(earlier(later(table)), readings), True)
        self.assertIs(keeps(restart(table, clocks), zeroed), True)
        self.assertIs(keeps(release(restart(table, clocks), clocks), readings), True)
        self.assertIs(inside(table, widen(table, gate.ceilings)), True)
        self.assertIs(inside(meet(later(table), earlier(table)), later(table)), True)
        self.assertEqual(meet(later(table), table), table)
        test = tuple((number, random_span(chance, 3)) for number in clocks)
        met = all(in_span(readings[number - 1], span) for number, span in test)
        narrowed = cut(table, *test)
        # All readings of a kind lie in the same spans up to the ceilings.
        if all(edge is None or edge[0] <= gate.ceilings[number - 1] for number, span in test for edge in span):
            self.assertEqual(narrowed, table if met else None)
        self.assertTrue(not met or keeps(narrowed, readings))

    def test_certificates_of_tables(self):
        chance = seeded("whole tables")
        told = [0, 0]
        for _ in range(1500):
            table = random_table(chance, chance.randint(1, 4))
            held, found = self.twice(shut, table), self.twice(ring, table)
            self.assertEqual(held is None, found is not None)
            told[held is None] += 1
            if held is None:
                self.assertIs(is_ring(table, found), True)
            else:
                self.check_shut(chance, table, held)
        self.assertGreater(min(told), 300)

    def check_shut(self, chance, table, held):
        """Every cap is shown by a way from above and by readings from below."""
        self.assertIs(is_shut(held), True)
        self.assertIs(keeps(table, self.twice(point, table)), True)
        i, j = chance.sample(range(len(table)), 2)
        cap = held[i][j]
        within = chance.choice(((1, 1), (1, 7), (10 ** 11, 3)))
        readings = self.twice(near, table, i, j, within)
        values = ((0, 1), *readings)
        self.assertIs(keeps(table, readings), True)
        gap = fraction(values[i]) - fraction(values[j])
        if cap is None:
            self.assertIsNone(way(table, i, j))
            self.assertGreaterEqual(gap, fraction(within))
        else:
            self.assertIs(is_way(table, i, j, cap, way(table, i, j)), True)
            self.assertIs(cap_allows(cap, values[i], values[j]), True)
            self.assertTrue(gap == cap[0] if cap[1] else cap[0] - fraction(within) < gap < cap[0])


class TestGates(Base):
    """Points 32, 37, 45, 46 and 52."""

    def test_settled(self):
        several = 0
        for gate, chance in gates_for(37, 2000):
            self.assertEqual(Gate.read(gate.text()).text(), gate.text())
            for _ in range(6):
                row = random_row(chance, chance.randint(0, 3), 2, 3, DEEDS)
                found = self.twice(paths, gate, row)
                self.assertEqual(lets(gate, row), found != ())
                several += len(found) > 1
                if gate.is_settled():
                    self.assertLessEqual(len(found), 1)
                ends = {standing_after(gate, (row, path, (0, 1))) for path in found}
                self.assertEqual(set(standings(gate, row)) if found else set(), ends)
        self.assertGreater(several, 20)

    def test_spots(self):
        for gate, chance in gates_for(45, 300):
            spots = self.twice(met_spots, gate)
            self.judged(is_closed_spots, spots, gate)
            for path in list(connected_tables(gate, 3))[-6:]:
                run = run_of(gate, path)
                self.assertIn(spot_of(gate, standing_after(gate, run)), spots)
            for spot in chance.sample(spots, min(3, len(spots))):
                run = run_of_moves(gate, moves_to(gate, spot))
                self.assertEqual(spot_of(gate, standing_after(gate, run)), spot)
                self.assertIs(is_kind(gate.ceilings, spot[1]), True)

    def test_halls(self):
        told = [0, 0]
        chance = seeded("whole halls")
        for _ in range(2000):
            gates = [larger_gate(chance, name) for name in ("one", "two", "three")[:chance.randint(2, 3)]]
            try:
                hall = Hall(*gates)
                joined = hall.joined()
            except (InvalidHall, TooMany):
                continue
            self.assertEqual(joined.deeds, hall.deeds)
            for _ in range(12):
                row = random_row(chance, chance.randint(0, 4), 2, 3, DEEDS)
                self.assertEqual(hall.lets(row), lets(joined, row))
                told[hall.lets(row)] += 1
            for row in list(grid_rows(joined, 2, 1, 2))[:5]:
                self.assertIs(hall.lets(row), True)
        self.assertGreater(min(told), 200)


class TestGoals(Base):
    """Points 61 to 67."""

    def test_goals(self):
        told = [0, 0]
        for gate, chance in gates_for(62, 600):
            goal = random_goal(chance, gate, 3)
            self.assertIs(is_goal(gate, goal), True)
            run, patches = self.twice(find, gate, goal), self.twice(never, gate, goal)
            self.assertEqual(run is None, patches is not None)
            told[run is None] += 1
            edge = self.twice(soonest, gate, goal)
            self.assertEqual(edge is None, run is None)
            if run is None:
                self.judged(is_closed_patches, patches, gate)
                self.assertIs(avoids(gate, goal, patches), True)
                self.assertIsNone(soon_run(gate, goal, (1, 2)))
                self.check_patches(gate, chance, patches)
            else:
                self.assertIs(meets(gate, goal, standing_after(gate, run)), True)
                self.check_soonest(gate, goal, edge, run)
        self.assertGreater(min(told), 100)

    def check_patches(self, gate, chance, patches):
        """All standings at the ends of let runs lie in patches of a closed tuple."""
        for path in chance.sample(list(connected_tables(gate, 2)), 1):
            state, readings = standing_after(gate, run_of(gate, path))
            self.assertTrue(any(name == state and keeps(table, readings) for name, table in patches))

    def check_soonest(self, gate, goal, edge, run):
        table = hours_table(gate, goal)
        self.judged(is_hours_table, table, gate, goal_ceilings(gate, goal))
        self.assertEqual(edge_from(gate, goal, table), edge)
        first = self.twice(soon_run, gate, goal, (1, 8))
        self.assertIs(meets(gate, goal, standing_after(gate, first)), True)
        self.assertTrue(end_of(first) == edge[0] if edge[1] else edge[0] < end_of(first) < edge[0] + fraction((1, 8)))
        self.assertTrue(end_of(run) > edge[0] or (end_of(run) == edge[0] and edge[1] == 1))

    def test_deeds(self):
        for gate, chance in gates_for(66, 250):
            for deed in gate.deeds:
                found, last = self.twice(first_span, gate, deed), longest_without(gate, deed)
                run = late_run(gate, deed, (2, 3))
                self.assertEqual(found is None, run is None)
                if found is None:
                    self.assertFalse(any(deed in row for row in bare_rows(gate, 2)))
                else:
                    self.assertIs(is_run(gate, run), True)
                    low, high = found
                    self.assertTrue(high is None or end_of(run) <= high[0])
                    self.assertGreaterEqual(end_of(run), low[0])
                    # Before the deed happens there is nothing but a run without it.
                    self.assertTrue(last is None or (high is not None and high <= last))
                for other in gate.deeds:
                    self.assertEqual(between(gate, deed, other) is None, passage(gate, deed, other, deed) is None)


class TestSights(Base):
    """Points 72 to 76, 94 and 102 to 103."""

    def test_fitting(self):
        told = [0, 0]
        for gate, chance in gates_for(73, 300):
            for sight in random_sights(chance, 2):
                run, wrong = self.twice(could, gate, sight), first_wrong(gate, sight)
                patches, states = self.twice(wrong_patches, gate, sight), states_after(gate, sight)
                told[run is None] += 1
                self.assertEqual((run is None, patches is None), (wrong is not None, wrong is None))
                self.assertEqual(states == (), run is None)
                if run is not None:
                    self.assertIs(sight.fits(run[0]), True)
                    self.assertIs(is_run(gate, run), True)
                    self.assertIn(standing_after(gate, run)[0], states)
                    self.check_entries(gate, chance, sight, run)
                else:
                    joined = watched(gate, sight.cut(wrong + 1))
                    self.judged(is_closed_patches, patches, joined)
                    self.assertIsNotNone(could(gate, sight.cut(wrong)))
                    if sight.entries:
                        self.assertEqual(raised(self, NothingFits, moment_span, gate, sight, 0), {"index": wrong})
        self.assertGreater(min(told), 100)

    def check_entries(self, gate, chance, sight, run):
        """What is said of an entry holds in the run that is known."""
        if sight.entries:
            index = chance.randrange(len(sight.entries))
            low, high = self.twice(moment_span, gate, sight, index)
            window = getattr(sight, "window", ((0, 1), None))
            seen = [place for place, (moment, deed) in enumerate(run[0]) if deed not in sight.hidden and in_span(moment, window)]
            self.assertIs(in_span(run[0][seen[index]][0], (low, high)), True)
            first = seen[index - 1] + 1 if index else 0
            for deed in gate.deeds:
                least, greatest = how_many(gate, sight, index, deed)
                count = [name for _, name in run[0][first:seen[index]]].count(deed)
                self.assertTrue(least <= count and (greatest is None or count <= greatest))
                word = surely(gate, sight, index, deed)
                self.assertIn(word, ("always", "sometimes") if count else ("never", "sometimes"))

    def test_cases_of_sights(self):
        # The closed lot of what a sight tells says the same as the functions for sights.
        told = [0, 0]
        for gate, chance in gates_for(102, 400):
            rows = [row for row in (random_row(chance, chance.randint(1, 3), 2, 4, DEEDS) for _ in range(12)) if lets(gate, row)]
            for row in rows[:2]:
                sight = seen_by(chance, gate, row)
                case = Case.seen(gate, sight)
                closed = self.twice(case.closed)
                spans = {fact[1]: fact[2] for fact in closed if fact[0] == "moment"}
                for index in range(len(row)):
                    self.assertEqual(moment_span(gate, sight, index), spans[index])
                self.assertEqual(closed[-1][2], states_after(gate, sight))
                self.check_closed(gate, case, closed, row)
                told[len(case.paths_left()) > 1] += 1
        self.assertGreater(min(told), 20)

    def check_closed(self, gate, case, closed, row):
        for path in paths(gate, row):
            self.assertIn(path, case.paths_left())
            for fact in closed:
                self.assertIs(fact_holds(gate, fact, (row, path, (0, 1))), True)
        for fact in closed:
            self.assertEqual(case.ask(fact), "always")
            self.assertIs(fact_holds(gate, fact, case.example()), True)
        tables = [case.table(path) for path in case.paths_left()]
        self.assertTrue(all(is_shut(table) for table in tables))
        cover = span_cover(*[((-table[0][1][0], table[0][1][1]), table[1][0]) for table in tables])
        self.assertIn(("moment", 0, cover), closed)

    def test_cases_without_facts(self):
        for gate, chance in gates_for(100, 300):
            for length in (1, 2):
                rows = bare_rows(gate, length)
                if not rows:
                    self.assertLessEqual(raised(self, NothingFits, Case, gate, length)["index"], length)
                    continue
                case = Case(gate, length)
                closed = case.closed()
                left = case.paths_left()
                self.assertEqual({tuple(gate.steps[step][1] for step in path) for path in left}, set(rows))
                for index in range(length):
                    deeds = [fact[2] for fact in closed if fact[:2] == ("deed", index)][0]
                    self.assertEqual(deeds, tuple(sorted({row[index] for row in rows})))
                gaps = [rest_spans(gate, path)[-1] for path in left]
                known = ("moment", 0) if length == 1 else ("gap", 0, 1)
                self.assertIn((*known, span_cover(*gaps)), closed)

    def test_looks(self):
        sizes = set()
        for gate, chance in gates_for(94, 3000):
            row = random_row(chance, chance.randint(1, 3), 2, 3, DEEDS)
            if lets(gate, row):
                looks = self.twice(fewest_looks, gate, row)
                sizes.add(None if looks is None else len(looks))
                if looks is not None:
                    self.assertEqual(len({state for state, _ in standings(gate, row)}), 1)
                    full = RoundedSight(tuple((int(fraction(moment)), deed) for moment, deed in row))
                    self.assertEqual(states_after(gate, full), (standings(gate, row)[0][0],))
        self.assertTrue(sizes >= {None, 0, 1})

    def test_slack(self):
        count = 0
        for gate, chance in gates_for(93, 2000):
            row = random_row(chance, chance.randint(1, 3), 3, 3, DEEDS)
            for path in paths(gate, row):
                spans = rest_spans(gate, path)
                times = [(0, 1)] + [moment for moment, _ in row]
                for place in range(len(row)):
                    low, high = slack(gate, row, path, place)
                    rest = fraction(times[place + 1]) - fraction(times[place])
                    self.assertTrue(fraction(low[0]) <= rest and (high is None or rest <= fraction(high[0])))
                    # What could stand there lies in what can ever stand there.
                    self.assertGreaterEqual(fraction(low[0]), spans[place][0][0])
                    self.assertTrue(spans[place][1] is None or fraction(high[0]) <= spans[place][1][0])
                    count += 1
        self.assertGreater(count, 150)


class TestPairs(Base):
    """Points 80 to 84 and 97."""

    def pairs(self, seed, count):
        for gate, chance in gates_for(seed, count):
            if gate.steps:
                yield gate, changed_gate(chance, gate), chance

    def test_within(self):
        told = [0, 0]
        for one, other, _ in self.pairs(81, 2400):
            if not other.is_settled():
                i, _ = other.overlap()
                self.assertEqual(raised(self, NotSettled, within_table, one, other), {"state": other.steps[i][0], "deed": other.steps[i][1]})
            elif len(one.clocks) + len(other.clocks) <= 4:
                row, table = self.twice(extra_row, one, other), within_table(one, other)
                self.assertEqual(row is None, table is not None)
                told[row is None] += 1
                if row is None:
                    self.judged(is_within_table, table, one, other)
                    for more in list(grid_rows(one, 2, 2, 2))[:20]:
                        self.assertIs(lets(other, more), True)
                else:
                    self.assertEqual((lets(one, row), lets(other, row)), (True, False))
        self.assertGreater(min(told), 60)

    def test_alike(self):
        told = [0, 0]
        for one, other, _ in self.pairs(82, 1500):
            if one.is_settled() and other.is_settled():
                row = self.twice(parting_row, one, other)
                self.assertIs(alike(one, other), row is None)
                told[row is None] += 1
                self.check_pair(one, other, row)
                if len(one.states) > 1:
                    groups = alike_states(one)
                    begun = [begun_at(one, group[0]) for group in groups]
                    self.assertTrue(all(parting_row(begun[0], more) is not None for more in begun[1:]))
        self.assertGreater(min(told), 100)

    def check_pair(self, one, other, row):
        rows = [extra_row(one, other), extra_row(other, one)]
        shortest = min((len(extra) for extra in rows if extra is not None), default=None)
        self.assertEqual(None if row is None else len(row), shortest)
        bare = bare_parting(one, other)
        if row is None:
            self.assertIsNone(bare)
            self.assertEqual(list(grid_rows(one, 1, 2, 4)), list(grid_rows(other, 1, 2, 4)))
        else:
            self.assertNotEqual(lets(one, row), lets(other, row))
            doubt = Doubt(one, Gate("second", other.clocks, other.states, other.steps, other.also))
            self.assertEqual(doubt.ask(row), "maybe")
            self.assertEqual(len(doubt.next_row()), len(row))
            self.assertTrue(bare is None or len(bare) >= len(row))

    def test_trimmed(self):
        less = 0
        for gate, chance in gates_for(97, 500):
            made = trimmed(gate)
            less += len(made.steps) < len(gate.steps)
            self.assertEqual((unused_steps(made), unmet_states(made)), ((), ()))
            self.assertIsNone(bare_parting(gate, made))
            if gate.is_settled():
                self.assertIs(alike(gate, made), True)
            for _ in range(5):
                row = random_row(chance, chance.randint(0, 3), 2, 3, DEEDS)
                self.assertEqual(lets(gate, row), lets(made, row))
            met = {state for state, _ in met_spots(gate)}
            self.assertEqual(set(unmet_states(gate)), {state for state, _ in gate.states} - met)
            for step in unused_steps(gate)[:2]:
                source, _, test, _, _ = gate.steps[step]
                run = find(gate, (source, test))
                # The source may be met with the test, but then the target forbids the readings.
                self.assertTrue(run is None or step not in [last for path in connected_tables(gate, 2) for last in path])
        self.assertGreater(less, 100)


class TestDangers(Base):
    """Points 90 to 92, 95 and 96."""

    def test_hanging(self):
        told = [0, 0]
        for gate, _ in gates_for(90, 1500):
            run, spots = self.twice(hang_run, gate), stuck_spots(gate)
            self.assertEqual(run is None, spots == ())
            told[run is None] += 1
            if run is not None:
                standing = standing_after(gate, run)
                self.assertIs(is_standing(gate, standing), True)
                self.assertIs(stuck(gate, standing), True)
                self.assertIn(spot_of(gate, standing), spots)
        self.assertGreater(min(told), 100)

    def test_hurry(self):
        told = [0, 0]
        for gate, chance in gates_for(92, 400):
            found, ranks = self.twice(hurry, gate), self.twice(calm_ranks, gate)
            self.assertEqual(found is None, ranks is not None)
            told[found is None] += 1
            if found is None:
                self.judged(is_calm, ranks, gate)
                self.assertIsNone(hurry_run(gate, 3))
            else:
                rounds = chance.randint(1, 8)
                run = self.twice(hurry_run, gate, rounds)
                self.assertIs(is_run(gate, run), True)
                self.assertEqual(run[1], found[0] + found[1] * rounds)
                self.assertLess(end_of(run), fraction(run[0][len(found[0])][0]) + 1)
        self.assertGreater(min(told), 100)

    def test_leading(self):
        told = [0, 0]
        for gate, chance in gates_for(95, 2000):
            ours = tuple(deed for deed in gate.deeds if chance.randint(0, 2))
            aim = gate.states[chance.randrange(len(gate.states))][0]
            made, held = self.twice(plan, gate, ours, aim), self.twice(trap, gate, ours, aim)
            self.assertEqual(made is None, held is not None)
            told[made is None] += 1
            if made is None:
                self.judged(is_trap, held, gate, ours, aim)
                self.assertIs(is_trap(gate, ours, aim, held + held), True)
            else:
                self.judged(is_plan, made, gate, ours, aim)
                self.assertIsNotNone(find(gate, (aim, ())))
                self.assertTrue(all(is_spot(gate, spot) for spot, _, _ in made))
        self.assertGreater(min(told), 100)

    def test_further_items(self):
        # There may be items to which nothing leads: here what would be met from another state on.
        counts = {}

        def check(judge, value, *arguments):
            self.judged(judge, value, *arguments)
            counts[judge.__name__] = counts.get(judge.__name__, 0) + 1

        for gate, chance in gates_for(4, 400):
            begun = begun_at(gate, chance.choice(gate.states)[0])
            aim, ours = gate.states[-1][0], tuple(deed for deed in gate.deeds if chance.randint(0, 1))
            goal = (aim, ())
            check(is_closed_spots, joined_with(met_spots(gate), met_spots(begun)), gate)
            if never(gate, goal) and never(begun, goal):
                check(is_closed_patches, joined_with(never(gate, goal), never(begun, goal)), gate)
                self.assertIs(avoids(gate, goal, joined_with(never(gate, goal), never(begun, goal))), True)
            late = joined_with(hours_table(gate, goal), hours_table(begun, goal), lambda pair: (pair[0], pair[1] + 10 ** 6))
            check(is_hours_table, late, gate, gate.ceilings)
            if calm_ranks(gate) and calm_ranks(begun):
                check(is_calm, joined_with(calm_ranks(gate), calm_ranks(begun), lambda pair: (pair[0], pair[1] + 10 ** 6)), gate)
            if trap(gate, ours, aim) and trap(begun, ours, aim):
                check(is_trap, joined_with(trap(gate, ours, aim), trap(begun, ours, aim)), gate, ours, aim)
            if plan(gate, ours, aim) and plan(begun, ours, aim):
                check(is_plan, joined_with(plan(gate, ours, aim), plan(begun, ours, aim), self.lifted), gate, ours, aim)
            if gate.is_settled() and len(gate.clocks) < 3:
                check(is_within_table, joined_with(within_table(gate, gate), within_table(begun, begun)), gate, gate)
        self.assertEqual(len(counts), 7)
        self.assertGreater(min(counts.values()), 50, counts)

    def lifted(self, triple):
        spot, rank, move = triple
        return triple if move == "done" else (spot, rank + 10 ** 6, move)


class TestBenches(Base):
    """Points 104 to 106."""

    def state(self, bench):
        return bench.moment, bench.standing, bench.row, bench.path, bench.left, bench.grain

    def lead(self, chance, bench, count):
        """Some actions and changes; errors are passed over."""
        for _ in range(count):
            kind = chance.randint(0, 7)
            try:
                if kind <= 1:
                    bench.rest(random_moment(chance, 2, 3))
                elif kind <= 3:
                    bench.do(chance.choice(bench.lets() or ("push",)), chance.choice((0, 0, 1)))
                elif kind == 4:
                    chance.choice((bench.undo, bench.again))()
                elif kind == 5:
                    chance.choice((bench.mark, bench.back_to))(chance.choice("ab"))
                elif kind == 6:
                    bench.change_grain(chance.choice((0, 1, 2, 6, 61)))
                else:
                    bench.attempt(("rest", (1, 2)), ("do", chance.choice(DEEDS)), ("rest", (1, 3)))
            except BellError:
                pass

    def test_nothing_of_a_trial_is_left(self):
        for gate, chance in gates_for(106, 1500):
            bench = Bench(gate)
            self.lead(chance, bench, 10)
            before = self.state(bench)
            tried(bench, lambda same: self.lead(chance, same, 8))
            with bench.trial() as same:
                self.lead(chance, same, 4)
                with same.trial():
                    self.lead(chance, same, 4)
                try:
                    tried(same, lambda more: (self.lead(chance, more, 3), more.attempt(("rest", (1, 1)), ("do", "no"))))
                except BellError:
                    pass
            self.assertEqual(self.state(bench), before)
            self.check_run(gate, bench)
            self.check_steps_back(bench)

    def check_run(self, gate, bench):
        """The run that is led is let, and ends at the standing."""
        last = fraction(bench.row[-1][0]) if bench.row else 0
        rest = fraction(bench.moment) - last
        run = (bench.row, bench.path, (rest.numerator, rest.denominator))
        self.assertIs(is_run(gate, run), True)
        self.assertEqual(standing_after(gate, run), bench.standing)

    def check_steps_back(self, bench):
        """All actions can be taken back and done again."""
        before = self.state(bench)
        done, undone = bench.left
        for _ in range(done):
            bench.undo()
        self.assertEqual((bench.moment, bench.row, bench.left), ((0, 1), (), (0, done + undone)))
        for _ in range(done):
            bench.again()
        self.assertEqual(self.state(bench), before)

    def test_goals_and_advice(self):
        for gate, chance in gates_for(104, 1000):
            bench = Bench(gate)
            goal = random_goal(chance, gate, 3)
            self.assertEqual(bench.can_meet(goal), find(gate, goal) is not None)
            self.lead(chance, bench, 6)
            # What can be met from here can be met from the start.
            self.assertTrue(find(gate, goal) is not None or not bench.can_meet(goal))
            spot = spot_of(gate, bench.standing)
            rest = bench.small_rest()
            self.assertEqual(bench.advice(((spot, 1, "rest"),)), "rest")
            bench.grain = 0
            if rest is not None:
                bench.rest(rest)
                self.assertIs(is_standing(gate, bench.standing), True)


class TestPlain(Base):
    """Point 107 beside the exact answers."""

    def test_bare_rows(self):
        same = 0
        for gate, _ in gates_for(107, 250):
            if len(gate.clocks) < 3:
                exact = bare_rows(gate, 2)
                # For two moments and limits up to 3, thirds of an hour are fine enough, and 8 hours long enough.
                self.assertEqual(grid_bare(gate, 2, 3, 8), exact)
                same += 1
        self.assertGreater(same, 150)

    def test_rows_are_let(self):
        for gate, _ in gates_for(108, 200):
            for row in list(grid_rows(gate, 2, 2, 2))[:6]:
                self.assertIs(lets(gate, row), True)
                for path in paths(gate, row):
                    times = tuple(moment for moment, _ in row) + (row[-1][0],)
                    self.assertIs(keeps(path_table(gate, path), times), True)

    def test_conditions(self):
        # A table that is made of conditions keeps what all conditions allow.
        chance = seeded("whole conditions")
        for _ in range(200):
            clocks = chance.randint(1, 3)
            conditions = [(chance.randint(0, clocks), chance.randint(0, clocks), (chance.randint(-2, 3), chance.randint(0, 1))) for _ in range(4)]
            readings = tuple(random_moment(chance, 3) for _ in range(clocks))
            values = ((0, 1), *readings)
            allowed = all(cap_allows(cap, values[i], values[j]) for i, j, cap in conditions)
            self.assertIs(keeps(table_with(clocks, *conditions), readings), allowed)


if __name__ == "__main__":
    unittest.main()
