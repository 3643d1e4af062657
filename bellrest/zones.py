"""Sets of standings: a state with a shut table of readings, and where rests and steps lead from there."""

from bellrest.moves import caps_inside, cut, restarted, risen, widened
from bellrest.tables import all_zero


def number_test(gate, test):
    """The test with clock numbers in place of the clocks' names."""
    return [(gate.clock_number(clock), span) for clock, span in test]


def stay_test(gate, state):
    """The stay of the state as a test with clock numbers."""
    return [(gate.clock_number(clock), ((0, 1), edge)) for clock, edge in gate.stay_of(state)]


def step_test(gate, step):
    """The test with clock numbers that readings in the source of the step meet if and only if the step is let."""
    _, _, test, restarts, target = gate.steps[step]
    zeroed = [gate.clock_number(clock) for clock in restarts]
    # No stay forbids the reading zero. So only the clocks that go on matter for the target.
    kept = [(number, span) for number, span in stay_test(gate, target) if number not in zeroed]
    return number_test(gate, test) + kept


def meeting(gate, state, test, table):
    """The shut table of the readings for which the stay of the state and the test hold, or None."""
    wanted = stay_test(gate, state) + number_test(gate, test)
    return cut(table, *wanted)


def resting(gate, state, table):
    """The shut table of the readings after all rests for which the stay holds, or None."""
    return meeting(gate, state, (), risen(table))


def stepping(gate, table, step):
    """The shut table of the readings directly after the step from readings of the table, or None."""
    source, _, test, restarts, target = gate.steps[step]
    met = meeting(gate, source, test, table)
    if met is None:
        return None
    return meeting(gate, target, (), restarted(met, [gate.clock_number(clock) for clock in restarts]))


def each_zone(gate, ceilings, ends=()):
    """All zones: triples of a state, a table and a path, paths with fewer steps first.

    The table has all readings to which runs with this path lead, and more readings only of kinds
    that such runs lead to. Left out are zones that lie in one that came before. From the states
    in ends no step is followed.
    """
    state, _ = gate.states[0]
    table = all_zero(len(gate.clocks))
    yield from zones_from(gate, ceilings, ends, state, table)


def zones_from(gate, ceilings, ends, state, table):
    """All zones of runs that begin in the state with readings of the table, as in each_zone."""
    latest = [(state, rested_zone(gate, ceilings, state, table), ())]
    known = {name: [] for name, _ in gate.states}
    while latest:
        fresh = []
        for name, zone, path in latest:
            if not any(caps_inside(zone, other) for other in known[name]):
                known[name].append(zone)
                fresh.append((name, zone, path))
                yield name, zone, path
        latest = [after for name, zone, path in fresh if name not in ends
                  for after in zones_after(gate, ceilings, name, zone, path)]


def zones_after(gate, ceilings, state, table, path):
    """The zones after one more step."""
    pairs = [(step, stepping(gate, table, step)) for step in gate.steps_from(state)]
    return [(gate.steps[step][4], rested_zone(gate, ceilings, gate.steps[step][4], after), (*path, step))
            for step, after in pairs if after is not None]


def rested_zone(gate, ceilings, state, table):
    """The widened table of the readings after all rests; for some of them the stay of the state holds."""
    # No limit of a stay is above its ceiling, so widening keeps what the stay says. Therefore
    # further rests, as long as the stay holds, lead nowhere but to readings of this table.
    return widened(resting(gate, state, table), ceilings)


def path_zone(gate, path):
    """The shut table of the readings with which runs with this path end, if there are such runs."""
    state, _ = gate.states[0]
    table = resting(gate, state, all_zero(len(gate.clocks)))
    for step in path:
        table = resting(gate, gate.steps[step][4], stepping(gate, table, step))
    return table
