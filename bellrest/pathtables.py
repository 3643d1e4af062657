"""Tables of all let runs with one path."""

from bellrest.moments import since
from bellrest.points import point
from bellrest.shutting import shut
from bellrest.tables import table_with


def path_table(gate, path, tests=()):
    """The shut table of all let runs with this path at whose end the tests hold, or None."""
    conditions = path_conditions(gate, path, tests)
    if conditions is None:
        return None
    return shut(table_with(len(path) + 1, *conditions))


def path_conditions(gate, path, tests):
    """Conditions on the moments of the entries and the end of a run with this path, or None.

    The number of a moment is that of its clock in the table; the beginning has the number 0.
    """
    zeros = {clock: 0 for clock in gate.clocks}
    state, _ = gate.states[0]
    conditions = []
    for number, step in enumerate(path, start=1):
        source, _, test, restarts, target = gate.steps[step]
        if source != state:
            return None
        conditions.extend(moment_conditions(gate, state, test, zeros, number))
        for clock in restarts:
            zeros[clock] = number
        state = target
    conditions.extend(moment_conditions(gate, state, tests, zeros, len(path) + 1))
    return conditions


def moment_conditions(gate, state, test, zeros, number):
    """Conditions that the stay of the state and the test hold at the moment with this number.

    A stay that holds there held since the moment before, because clocks only advance in between.
    """
    found = [(number - 1, number, (0, 1))]
    for clock, edge in gate.stay_of(state):
        found.append((number, zeros[clock], edge))
    for clock, (low, high) in test:
        found.append((number, zeros[clock], high))
        found.append((zeros[clock], number, (-low[0], low[1])))
    return found


def run_with(gate, path, moments):
    """The run with this path whose entries have the moments but the last one, at which it ends."""
    row = tuple([(moment, gate.steps[step][1]) for moment, step in zip(moments, path)])
    times = ((0, 1), *moments)
    return row, path, since(times[-2], times[-1])


def run_of(gate, path, tests=()):
    """Some let run with this path at whose end the tests hold, or None."""
    table = path_table(gate, path, tests)
    return None if table is None else run_with(gate, path, point(table))
