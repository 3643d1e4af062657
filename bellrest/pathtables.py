"""Tables of all let runs with one path."""

from bellrest.moments import in_lowest_terms, since
from bellrest.points import point
from bellrest.shutting import shut
from bellrest.tables import table_with


def path_table(gate, path, tests=()):
    """The shut table of all let runs with this path at whose end the tests hold, or None."""
    conditions = path_conditions(gate, path, tests)
    if conditions is None:
        return None
    return shut(table_with(len(path) + 1, *conditions))


def path_conditions(gate, path, tests):
    """Conditions on the moments of the entries and the end of a run with this path, or None.

    The number of a moment is that of its clock in the table; the beginning has the number 0.
    """
    found = step_conditions(gate, path)
    if found is None:
        return None
    conditions, state, zeros = found
    return conditions + moment_conditions(gate, state, tests, zeros, len(path) + 1)


def step_conditions(gate, path):
    """Conditions for the steps of the path, the state after it and the numbers of the moments of the last restarts.

    None if the path goes through no states. What the stay of the last state asks for is left out.
    """
    zeros = {clock: 0 for clock in gate.clocks}
    state, _ = gate.states[0]
    conditions = []
    for number, step in enumerate(path, start=1):
        source, _, test, restarts, target = gate.steps[step]
        if source != state:
            return None
        conditions.extend(moment_conditions(gate, state, test, zeros, number))
        for clock in restarts:
            zeros[clock] = number
        state = target
    return conditions, state, zeros


def moment_conditions(gate, state, test, zeros, number):
    """Conditions that the stay of the state and the test hold at the moment with this number.

    A stay that holds there held since the moment before, because clocks only advance in between.
    """
    found = [(number - 1, number, (0, 1))]
    found.extend(stay_conditions(gate, state, zeros, number))
    for clock, span in test:
        found.extend(span_conditions(zeros[clock], number, span))
    return found


def stay_conditions(gate, state, zeros, number):
    """Conditions that the stay of the state holds at the moment with this number."""
    return [(number, zeros[clock], edge) for clock, edge in gate.stay_of(state)]


def span_conditions(first, second, span):
    """Conditions that the rest from the first moment to the second one, given by their numbers, lies in the span."""
    low, high = span
    return [(second, first, high), (first, second, (-low[0], low[1]))]


def least_moments(count, conditions):
    """The least moments with the numbers from 1 to count that meet the conditions, if there are any.

    Where a limit is only neared, one grain is kept from it, as readings do in points.
    """
    grains = count + 1
    values = [0] * (count + 1)
    is_met = False
    while not is_met:
        is_met = True
        for i, j, cap in conditions:
            if cap is not None and values[i] - values[j] > cap[0] * grains - 1 + cap[1]:
                values[j] = values[i] - cap[0] * grains + 1 - cap[1]
                is_met = False
    return tuple([in_lowest_terms(value, grains) for value in values[1:]])


def run_with(gate, path, moments):
    """The run with this path whose entries have the moments but the last one, at which it ends."""
    row = tuple([(moment, gate.steps[step][1]) for moment, step in zip(moments, path)])
    times = ((0, 1), *moments)
    return row, path, since(times[-2], times[-1])


def run_of(gate, path, tests=()):
    """Some let run with this path at whose end the tests hold, or None."""
    table = path_table(gate, path, tests)
    return None if table is None else run_with(gate, path, point(table))


def run_into(gate, path, table):
    """Some let run with this path that ends with readings of the table, if there is one."""
    conditions, state, zeros = step_conditions(gate, path)
    end = len(path) + 1
    conditions.extend(moment_conditions(gate, state, (), zeros, end))
    # A clock reads the end minus the moment of its last restart, and the zero clock the end minus the end.
    places = [end, *[zeros[clock] for clock in gate.clocks]]
    for i, row in enumerate(table):
        conditions.extend([(places[j], places[i], cap) for j, cap in enumerate(row) if i != j])
    return run_with(gate, path, least_moments(end, conditions))
