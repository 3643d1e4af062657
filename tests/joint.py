"""Two gates side by side: what points 80 to 82 say, led by hand or tried on a grid; and pairs of gates to try it on."""

import itertools
from fractions import Fraction

from bellrest.gates import Gate
from bellrest.running import lets
from helpers import Walk, as_moment, following_kinds, fraction, kind_oracle, random_gates, random_span, readings_by_kind, seeded


def put(gate, state, readings):
    """A walk of the gate that stands there."""
    walk = Walk(gate)
    walk.state = state
    walk.readings = dict(zip(gate.clocks, map(fraction, readings)))
    return walk


def steps_at(gate, state, readings):
    """The steps that are let, with the walks after them."""
    found = []
    for step in range(len(gate.steps)):
        walk = put(gate, state, readings)
        if walk.step(step, gate.steps[step][1]):
            found.append((step, walk))
    return found


class Joint:
    """Joint spots of two gates, by readings of their kinds."""

    def __init__(self, one, other):
        self.one, self.other = one, other
        self.ceilings = one.ceilings + other.ceilings
        self.samples = readings_by_kind(self.ceilings)

    def first(self):
        clocks = len(self.ceilings)
        return self.one.states[0][0], self.other.states[0][0], ((0,) * clocks, (tuple(range(1, clocks + 1)),))

    def parts(self, kind):
        sample = self.samples[kind]
        return sample[:len(self.one.clocks)], sample[len(self.one.clocks):]

    def stays(self, spot):
        left, right = self.parts(spot[2])
        return put(self.one, spot[0], left).stays(), put(self.other, spot[1], right).stays()

    def all_spots(self):
        return [spot for state, _ in self.one.states for more, _ in self.other.states for kind in sorted(self.samples)
                for spot in [(state, more, kind)] if all(self.stays(spot))]

    def is_silent(self, state, readings):
        """Does the first gate let no step now and after any rest?"""
        for kind in following_kinds(readings, self.one.ceilings):
            sample = readings_by_kind(self.one.ceilings)[kind]
            if not put(self.one, state, sample).stays():
                return True
            if steps_at(self.one, state, sample):
                return False
        return True

    def after(self, spot):
        """The joint spots that must be there as well, or None if nothing can make up for what the second gate lacks."""
        state, more, kind = spot
        left, right = self.parts(kind)
        found = []
        for step, walk in steps_at(self.one, state, left):
            matches = [match for index, match in steps_at(self.other, more, right)
                       if self.other.steps[index][1] == self.one.steps[step][1]]
            if not matches:
                return None
            readings = walk.standing()[1] + matches[0].standing()[1]
            found.append((walk.state, matches[0].state, kind_oracle(readings, self.ceilings)))
        rested = (state, more, (following_kinds(self.samples[kind], self.ceilings) * 2)[1])
        left_stays, right_stays = self.stays(rested)
        if left_stays and right_stays:
            found.append(rested)
        elif left_stays and not self.is_silent(state, self.parts(rested[2])[0]):
            return None
        return found

    def reached(self):
        """The joint spots to which moves lead from the first one, or None if one of them has None."""
        found, todo = {self.first()}, [self.first()]
        while todo:
            after = self.after(todo.pop())
            if after is None:
                return None
            todo.extend(spot for spot in after if spot not in found)
            found.update(after)
        return found

    def judge(self, value):
        """What point 81 says of a within table."""
        if type(value) is not tuple:
            return False
        told = {repr(spot) for spot in self.all_spots()}
        if not all(repr(spot) in told for spot in value) or self.first() not in value:
            return False
        for spot in value:
            after = self.after(spot)
            if after is None or not all(more in value for more in after):
                return False
        return True


def grid_rows_oracle(deeds, length, parts, until):
    moments = [as_moment(Fraction(number, parts)) for number in range(until * parts + 1)]
    for times in itertools.combinations_with_replacement(moments, length):
        for names in itertools.product(deeds, repeat=length):
            yield tuple(zip(times, names))


def is_extra_on_grid(one, other, length, until=4):
    """Is there a row with so many entries that only the first gate lets? The grid is fine enough to tell."""
    deeds = one.deeds
    return any(lets(one, row) and not lets(other, row) for row in grid_rows_oracle(deeds, length, length + 1, until))


def settled_gates(seed, count, most=6):
    """Small settled gates with some steps."""
    found = []
    for gate in random_gates(seed, count):
        if gate.is_settled() and 1 <= len(gate.steps) <= most:
            found.append(gate)
    return found


def changed_span(chance, span):
    """A span near the span, most times a larger or smaller one."""
    low, high = span
    kind = chance.randint(0, 3)
    if kind == 0:
        return span
    if kind == 1:
        return (low, None)
    if kind == 2:
        return ((low[0], 1), high)
    return random_span(chance, 3)


def changed_gate(chance, gate):
    """A gate that differs in a few places, or only in what does not matter."""
    states = list(gate.states)
    steps = list(gate.steps)
    for _ in range(chance.randint(0, 2)):
        kind = chance.randint(0, 3)
        if kind == 0:
            at = chance.randrange(len(states))
            stay = tuple((clock, (limit + chance.randint(0, 1), chance.randint(0, 1))) for clock, (limit, _) in states[at][1])
            states[at] = (states[at][0], tuple(pair for pair in stay if pair[1] != (0, 0)))
        elif kind == 1 and len(steps) > 1:
            del steps[chance.randrange(len(steps))]
        else:
            at = chance.randrange(len(steps))
            source, deed, test, restarts, target = steps[at]
            if kind == 2:
                test = tuple((clock, changed_span(chance, span)) for clock, span in test)
            else:
                restarts = tuple(clock for clock in gate.clocks if chance.randint(0, 1))
            steps[at] = (source, deed, test, restarts, target)
    return Gate("other", gate.clocks, tuple(states), tuple(steps), gate.also)


def pairs_of_gates(seed, count):
    """Pairs of gates that often let the same rows; the second one is settled."""
    chance = seeded(seed)
    gates = settled_gates(seed, count)
    found = []
    for gate in gates:
        other = changed_gate(chance, gate)
        if other.is_settled():
            found.append((gate, other))
        found.append((other, gate))
    return found


def with_more_clocks(gate, name="more"):
    """A gate with a further clock and a further state that lets the same rows."""
    steps = tuple((source, deed, test, restarts + ("spare",) * (index % 2), target)
                  for index, (source, deed, test, restarts, target) in enumerate(gate.steps))
    return Gate(name, (*gate.clocks, "spare"), gate.states + (("nowhere", ()),), steps, gate.also)
