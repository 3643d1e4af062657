"""What several test files need: values near a value, grids of readings, random tables."""

import copy
import functools
import itertools
import random
from fractions import Fraction


def nested(depth, make=tuple):
    """An empty tuple or list inside of others, so many deep."""
    value = make()
    for _ in range(depth - 1):
        value = make([value])
    return value


ODD_VALUES = (
    None, True, False, 0, 1, -1, 2, 10 ** 30, "", "a", "1", "x.y", (), [], (()), ((),), ([],), [()], (None,), (0,), (0, 1),
    [0, 1], (0, 1, 0), (True, False), "abc" * 100, nested(12), nested(12, list), ((1, 2), [3, ("a", None)]),
    ((0, 1), None), (((0, 1), None),), (((0, 1), (0, 1)), ((0, 1), (0, 1))))


def near_values(value):
    """Values that differ from the value in one place."""
    yield from ODD_VALUES
    if isinstance(value, bool) or value is None:
        return
    if isinstance(value, int):
        yield from (value + 1, value - 1, -value, str(value), (value,))
        if value in (0, 1):
            yield bool(value)
    elif isinstance(value, str):
        yield from (value + "x", value[:-1], value.upper(), value + " ", " " + value, value + "\n", (value,))
    elif isinstance(value, tuple):
        yield list(value)
        yield value + (None,)
        for at, item in enumerate(value):
            before, after = value[:at], value[at + 1:]
            yield before + after
            yield before + (item, item) + after
            for other in near_values(item):
                yield before + (other,) + after


def check_judge(case, judge, values, oracle):
    """Compare a judge with an oracle over the values and the values near them."""
    seen = 0
    for value in values:
        case.assertIs(judge(value), True, value)
        for other in itertools.chain([value], near_values(value)):
            before = copy.deepcopy(other)
            told = judge(other)
            case.assertIs(told, bool(oracle(other)), other)
            case.assertEqual(repr(before), repr(other))
            seen += 1
    case.assertGreater(seen, len(ODD_VALUES))


def plain_int(value):
    return type(value) is int


def moment_oracle(value):
    """What point 10 says of a moment, with the library's fractions."""
    if type(value) is not tuple or len(value) != 2 or not all(map(plain_int, value)):
        return False
    if value[0] < 0 or value[1] < 1:
        return False
    return Fraction(value[0], value[1]).denominator == value[1]


def edge_oracle(value):
    if type(value) is not tuple or len(value) != 2 or not all(map(plain_int, value)):
        return False
    return value[1] == 0 or value[1] == 1


def span_oracle(value):
    if type(value) is not tuple or len(value) != 2 or not edge_oracle(value[0]) or value[0][0] < 0:
        return False
    if value[1] is None:
        return True
    if not edge_oracle(value[1]):
        return False
    gap = value[1][0] - value[0][0]
    return gap > 0 or (gap == 0 and value[0][1] + value[1][1] == 2)


def table_oracle(value):
    if type(value) is not tuple or len(value) < 2:
        return False
    return all(type(row) is tuple and len(row) == len(value) and all(cap is None or edge_oracle(cap) for cap in row)
               for row in value)


def fraction(moment):
    return Fraction(moment[0], moment[1])


def as_moment(number):
    number = Fraction(number)
    return number.numerator, number.denominator


def in_span_oracle(moment, span):
    value, (low, high) = fraction(moment), span
    if value < low[0] or (value == low[0] and low[1] == 0):
        return False
    return high is None or value < high[0] or (value == high[0] and high[1] == 1)


def allowed(cap, difference):
    """Does the cap allow the difference, a fraction?"""
    return cap is None or difference < cap[0] or (difference == cap[0] and cap[1] == 1)


def keeps_oracle(table, readings):
    values = [Fraction(0)] + [fraction(reading) for reading in readings]
    size = range(len(table))
    return all(allowed(table[i][j], values[i] - values[j]) for i in size for j in size)


def grid(clocks, parts, until):
    """All readings whose parts of an hour are multiples of one hour divided by parts, up to until hours."""
    moments = [as_moment(Fraction(number, parts)) for number in range(until * parts + 1)]
    return list(itertools.product(moments, repeat=clocks))


def seeded(seed):
    return random.Random(seed)


def random_cap(chance, low, high):
    return chance.randint(low, high), chance.randint(0, 1)


def random_table(chance, clocks, low=-3, high=3, filled=None):
    """A table with some caps, most of them None."""
    share = chance.choice((1, 2, 3)) if filled is None else filled
    size = range(clocks + 1)
    return tuple(tuple(random_cap(chance, low, high) if chance.randint(0, 4) < share else None for _ in size)
                 for _ in size)


def random_tables(seed, count, most_clocks=3, low=-3, high=3):
    chance = seeded(seed)
    return [random_table(chance, chance.randint(1, most_clocks), low, high) for _ in range(count)]


def random_span(chance, until=4):
    while True:
        low = (chance.randint(0, until), chance.randint(0, 1))
        high = None if chance.randint(0, 3) == 0 else (chance.randint(0, until), chance.randint(0, 1))
        if span_oracle((low, high)):
            return low, high


def effective(table, i, j):
    """The effective cap of point 21."""
    cap = table[i][j]
    if i == j or i == 0:
        return min(cap, (0, 1)) if cap is not None else (0, 1)
    return cap


def sum_oracle(table, numbers):
    """The sum of the effective caps along the numbers."""
    limit, reach = 0, 1
    for a, b in zip(numbers, numbers[1:]):
        cap = effective(table, a, b)
        if cap is None:
            return None
        limit, reach = limit + cap[0], reach * cap[1]
    return limit, reach


def simple_ways(size, i, j):
    """All tuples of different numbers from i to j; for equal ones, those that end where they begin."""
    others = [number for number in range(size) if number not in (i, j)]
    for count in range(len(others) + 1):
        for between in itertools.permutations(others, count):
            yield (i, *between, j)


def shut_oracle(table):
    """The shut table by trying all ways that name no number twice, or None."""
    size = len(table)
    for i in range(size):
        for ring in simple_ways(size, i, i):
            total = sum_oracle(table, ring)
            if total is not None and total < (0, 1):
                return None
    rows = []
    for i in range(size):
        row = []
        for j in range(size):
            totals = [sum_oracle(table, way) for way in simple_ways(size, i, j)] if i != j else [(0, 1)]
            row.append(min([total for total in totals if total is not None], default=None))
        rows.append(tuple(row))
    return tuple(rows)


def keeps_scaled(table, values, parts):
    """keeps_oracle for readings that are given as integers: multiples of one hour divided by parts."""
    whole = (0, *values)
    for first, row in zip(whole, table):
        for second, cap in zip(whole, row):
            if cap is not None:
                excess = first - second - cap[0] * parts
                if excess > 0 or (excess == 0 and cap[1] == 0):
                    return False
    return min(whole) >= 0


DOOR_TEXT = """gate door
clocks x
state shut
state ajar x<=2
step shut push ajar when x[1,) restart x
step ajar bell shut
"""


def door():
    from bellrest.gates import Gate
    return Gate("door", ("x",), (("shut", ()), ("ajar", (("x", (2, 1)),))),
                (("shut", "push", (("x", ((1, 1), None)),), ("x",), "ajar"), ("ajar", "bell", (), (), "shut")))


def random_gate_parts(chance, most_limit=3):
    """The parts of a small gate with few deeds, so that rows often have several paths."""
    clocks = ("x", "y.z")[:chance.randint(1, 2)]
    names = ("go", "wait", "rest.now")[:chance.randint(1, 3)]
    states = []
    for name in names:
        stay = tuple((clock, (chance.randint(1, most_limit), chance.randint(0, 1)))
                     for clock in clocks if chance.randint(0, 2) == 0)
        states.append((name, stay))
    steps = []
    for _ in range(chance.randint(0, 6)):
        test = tuple((clock, random_span(chance, most_limit)) for clock in clocks if chance.randint(0, 1))
        restarts = tuple(clock for clock in clocks if chance.randint(0, 1))
        steps.append((chance.choice(names), chance.choice(("push", "bell")), test, restarts, chance.choice(names)))
    also = ("creak",) if chance.randint(0, 3) == 0 else ()
    return "gate.one", clocks, tuple(states), tuple(steps), also


def random_gates(seed, count):
    from bellrest.gates import Gate
    chance = seeded(seed)
    return [Gate(*random_gate_parts(chance)) for _ in range(count)]


CLOCKS = ("x", "y", "z")
DEEDS = ("bell", "knock", "push")


def larger_gate(chance, name="whole"):
    """A gate with up to three clocks and four states, all of which steps often lead to."""
    from bellrest.gates import Gate
    clocks = CLOCKS[:chance.choice((1, 2, 2, 3))]
    names = ("a", "b", "c", "d")[:chance.randint(1, 4)]
    most = 3 if len(clocks) < 3 else 2
    states = tuple((state, tuple((clock, (chance.randint(1, most), chance.randint(0, 1))) for clock in clocks if chance.randint(0, 3) == 0))
                   for state in names)
    steps = []
    for number in range(chance.randint(1, 2 + 2 * len(names))):
        source = names[number % len(names)] if number else names[0]
        test = tuple((clock, random_span(chance, most)) for clock in clocks if chance.randint(0, 2) == 0)
        restarts = tuple(clock for clock in clocks if chance.randint(0, 1))
        steps.append((source, chance.choice(DEEDS), test, restarts, chance.choice(names)))
    return Gate(name, clocks, states, tuple(steps), ("creak",) * (chance.randint(0, 4) == 0))


def random_row(chance, length, parts=2, until=4, deeds=("push", "bell")):
    moments = sorted(Fraction(chance.randint(0, until * parts), parts) for _ in range(length))
    return tuple((as_moment(moment), chance.choice(deeds)) for moment in moments)


class Walk:
    """A gate that is led by hand, with fractions: what points 31, 33 and 34 say, one by one."""

    def __init__(self, gate):
        self.gate = gate
        self.state = gate.states[0][0]
        self.readings = {clock: Fraction(0) for clock in gate.clocks}

    def stays(self):
        stay = dict(self.gate.states)[self.state]
        return all(allowed(edge, self.readings[clock]) for clock, edge in stay)

    def rest(self, rest):
        for clock in self.readings:
            self.readings[clock] += rest
        return self.stays()

    def meets(self, test):
        return all(in_span_oracle(as_moment(self.readings[clock]), span) for clock, span in test)

    def step(self, index, deed):
        source, own, test, restarts, target = self.gate.steps[index]
        if source != self.state or own != deed or not self.meets(test):
            return False
        for clock in restarts:
            self.readings[clock] = Fraction(0)
        self.state = target
        return self.stays()

    def standing(self):
        return self.state, tuple(as_moment(self.readings[clock]) for clock in self.gate.clocks)


def walked(gate, run):
    """The number of entries of the run that are let, and the Walk at its end, or None if it is not let."""
    row, path, rest = run
    walk = Walk(gate)
    now = Fraction(0)
    for index, ((moment, deed), step) in enumerate(zip(row, path)):
        if not (walk.rest(fraction(moment) - now) and walk.step(step, deed)):
            return index, None
        now = fraction(moment)
    return len(row), walk if walk.rest(fraction(rest)) else None


def paths_oracle(gate, row):
    """All paths of the row, by trying all tuples of steps."""
    found = []
    for path in itertools.product(range(len(gate.steps)), repeat=len(row)):
        if walked(gate, (row, path, (0, 1)))[1] is not None:
            found.append(path)
    return tuple(found)


def since_oracle(first, second):
    """The second moment minus the first one, which may be later."""
    return fraction(second) - fraction(first)


def kind_oracle(readings, ceilings):
    """The kind of point 40, with fractions."""
    values = {clock: fraction(reading) for clock, reading in enumerate(readings, 1)}
    near = {clock: value for clock, value in values.items() if value <= ceilings[clock - 1]}
    wholes = tuple(int(value) if clock in near else ceilings[clock - 1] + 1 for clock, value in values.items())
    parts = sorted({value - int(value) for value in near.values()} | {Fraction(0)})
    order = tuple(tuple(clock for clock in sorted(near) if near[clock] - int(near[clock]) == part) for part in parts)
    return wholes, order


def all_kinds(ceilings):
    """All kinds over the ceilings, ascending, from a grid that meets each of them."""
    parts = len(ceilings) + 1
    axes = [[Fraction(k, parts) for k in range((ceiling + 1) * parts + 1)] for ceiling in ceilings]
    readings = [tuple(map(as_moment, values)) for values in itertools.product(*axes)]
    return sorted({kind_oracle(one, ceilings) for one in readings})


def advanced(readings, rest):
    return tuple(as_moment(fraction(reading) + fraction(rest)) for reading in readings)


def following_kinds(readings, ceilings):
    """The kinds that follow when the clocks advance, the present one first, each once."""
    events = {Fraction(0)}
    for reading, ceiling in zip(readings, ceilings):
        events.update(whole - fraction(reading) for whole in range(ceiling + 1) if whole >= fraction(reading))
    times = sorted(events)
    between = [(one + other) / 2 for one, other in zip(times, times[1:] + [times[-1] + 2])]
    found = []
    for time in sorted(times + between):
        kind = kind_oracle(advanced(readings, as_moment(time)), ceilings)
        if kind not in found:
            found.append(kind)
    return found


def random_moment(chance, until=4, most=6):
    parts = chance.randint(1, most)
    return as_moment(Fraction(chance.randint(0, until * parts), parts))


def moves_oracle(gate, spot):
    """Pairs of a possible move at the spot and the spot after it, from some readings of the kind."""
    state, kind = spot
    walk = Walk(gate)
    sample = readings_by_kind(gate.ceilings)[kind]
    found = []
    for move in ("rest", *range(len(gate.steps))):
        walk.state = state
        walk.readings = dict(zip(gate.clocks, map(fraction, sample)))
        if move == "rest":
            after = (following_kinds(sample, gate.ceilings) * 2)[1]
            walk.readings = dict(zip(gate.clocks, map(fraction, readings_by_kind(gate.ceilings)[after])))
            possible = walk.stays()
        else:
            possible = walk.step(move, gate.steps[move][1])
        if possible:
            found.append((move, (walk.state, kind_oracle(walk.standing()[1], gate.ceilings))))
    return found


def sample_readings(ceilings):
    """Readings that meet every kind over the ceilings."""
    parts = len(ceilings) + 1
    axes = [[as_moment(Fraction(k, parts)) for k in range((ceiling + 1) * parts + 1)] for ceiling in ceilings]
    return itertools.product(*axes)


def stay_holds_oracle(gate, state, kind):
    """Does the stay hold for readings of the kind?"""
    walk = Walk(gate)
    walk.state = state
    walk.readings = dict(zip(gate.clocks, map(fraction, readings_by_kind(gate.ceilings)[kind])))
    return walk.stays()


def all_spots(gate):
    """All spots of the gate, in their order."""
    return [(state, kind) for state, _ in gate.states for kind in all_kinds(gate.ceilings)
            if stay_holds_oracle(gate, state, kind)]


def first_spot(gate):
    clocks = len(gate.clocks)
    return gate.states[0][0], ((0,) * clocks, (tuple(range(1, clocks + 1)),))


def spots_by_distance(gate):
    """The least number of moves to each met spot."""
    found = {first_spot(gate): 0}
    queue = [first_spot(gate)]
    for spot in queue:
        for _, after in moves_oracle(gate, spot):
            if after not in found:
                found[after] = found[spot] + 1
                queue.append(after)
    return found


def raised(case, error, function, *arguments):
    """The attributes of the error of exactly this class that the call raises."""
    with case.assertRaises(error) as caught:
        function(*arguments)
    case.assertIs(type(caught.exception), error)
    return vars(caught.exception)


def is_shut_oracle(value):
    return table_oracle(value) and shut_oracle(value) == value


def end_of(run):
    """The end of the run, as a fraction."""
    row, _, rest = run
    return (fraction(row[-1][0]) if row else 0) + fraction(rest)


def random_goal(chance, gate, most=4):
    state = chance.choice([None] + [name for name, _ in gate.states])
    return state, tuple((clock, random_span(chance, most)) for clock in gate.clocks if chance.randint(0, 1))


@functools.lru_cache(maxsize=None)
def connected_tables(gate, most):
    """The tables of all paths with at most so many steps that some run has, by path; short ones first."""
    from bellrest.pathtables import path_table
    found = {(): path_table(gate, ())}
    paths = [()]
    for _ in range(most):
        longer = {}
        for path in paths:
            for step in range(len(gate.steps)):
                table = path_table(gate, (*path, step))
                if table is not None:
                    longer[(*path, step)] = table
        found.update(longer)
        paths = list(longer)
    return found


@functools.lru_cache(maxsize=None)
def readings_by_kind(ceilings):
    """Some readings of each kind over the ceilings."""
    found = {}
    for readings in sample_readings(ceilings):
        found.setdefault(kind_oracle(readings, ceilings), readings)
    return found


def hand_moves_oracle(gate, ceilings, spot):
    """Triples of a hand move, the hand spot after it and the hours counted, from some readings of the kind."""
    state, kind = spot
    tops = (*ceilings, 1)
    sample = readings_by_kind(tops)[kind]
    after = (following_kinds(sample, tops) * 2)[1]
    found = []
    for move in ("rest", *range(len(gate.steps))):
        walk = Walk(gate)
        walk.state = state
        *readings, hand = map(fraction, readings_by_kind(tops)[after] if move == "rest" else sample)
        walk.readings = dict(zip(gate.clocks, readings))
        if walk.stays() if move == "rest" else walk.step(move, gate.steps[move][1]):
            hours = int(hand)
            after_readings = (*walk.standing()[1], as_moment(hand - hours))
            found.append((move, (walk.state, kind_oracle(after_readings, tops)), hours))
    return found


def all_hand_spots(gate, ceilings):
    """All hand spots over the ceilings, ordered by the index of the state and the kind."""
    found = []
    for state, _ in gate.states:
        for kind, readings in sorted(readings_by_kind((*ceilings, 1)).items()):
            walk = Walk(gate)
            walk.state = state
            walk.readings = dict(zip(gate.clocks, map(fraction, readings)))
            if kind[0][-1] == 0 and walk.stays():
                found.append((state, kind))
    return found


def least_hours(gate, ceilings):
    """The least hours for each hand spot that is met, in any order."""
    clocks = len(ceilings) + 1
    first = (gate.states[0][0], ((0,) * clocks, (tuple(range(1, clocks + 1)),)))
    best = {first: 0}
    todo = [first]
    while todo:
        spot = todo.pop(0)
        for _, after, hours in hand_moves_oracle(gate, ceilings, spot):
            if after not in best or best[after] > best[spot] + hours:
                best[after] = best[spot] + hours
                todo.append(after)
    return best


def goal_oracle(gate, value):
    if type(value) is not tuple or len(value) != 2:
        return False
    state, test = value
    if state is not None and not (type(state) is str and state in [name for name, _ in gate.states]):
        return False
    if type(test) is not tuple or not all(type(pair) is tuple and len(pair) == 2 for pair in test):
        return False
    names = [pair[0] for pair in test]
    if not all(type(name) is str and name in gate.clocks and names.count(name) == 1 for name in names):
        return False
    return all(span_oracle(pair[1]) for pair in test)


def wrong_goals(gate, *goals):
    """Values that are no goals of the gate, most of them near one of the goals."""
    values = list(ODD_VALUES) + [near for goal in goals for near in near_values(goal)]
    return [value for value in values if not goal_oracle(gate, value)]


def simple_oracle(value):
    return type(value) is str and 1 <= len(value) <= 12 and all("a" <= sign <= "z" for sign in value)


def fits_oracle(entries, hidden, row, window=None):
    """Points 70 and 71: does the row fit?"""
    seen = [entry for entry in row if window is None or in_span_oracle(entry[0], window)]
    seen = [entry for entry in seen if entry[1] not in hidden]
    return len(seen) == len(entries) and all(
        in_span_oracle(moment, span) and deed == name for (moment, deed), (span, name) in zip(seen, entries))
