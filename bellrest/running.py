"""Rests and steps of a gate, and the rows and runs that it lets."""

from bellrest.errors import InvalidRow, NotLet, RestBlocked
from bellrest.forms import is_tuple_of, is_whole
from bellrest.moments import added, compared, is_moment, since
from bellrest.names import is_simple
from bellrest.spans import in_span
from bellrest.tables import is_readings


def is_row(value):
    """Is the value a row?"""
    return isinstance(value, tuple) and wrong_entry(value) is None


def wrong_entry(row):
    """The index of the first entry of a tuple that cannot stand there in a row, or None."""
    now = (0, 1)
    for index, entry in enumerate(row):
        if not is_entry(entry) or compared(entry[0], now) < 0:
            return index
        now = entry[0]
    return None


def is_entry(value):
    """Is the value a pair of a moment and a simple name?"""
    return is_tuple_of(2, value) and is_moment(value[0]) and is_simple(value[1])


def check_row(row):
    """Raise InvalidRow with the first wrong index if this is not a row."""
    if not isinstance(row, tuple):
        raise InvalidRow(0)
    index = wrong_entry(row)
    if index is not None:
        raise InvalidRow(index)


def has_state(gate, value):
    """Is the value the name of a state of the gate?"""
    return any(value == name for name, _ in gate.states)


def is_standing(gate, value):
    """Is the value a standing of the gate?"""
    if not is_tuple_of(2, value):
        return False
    state, readings = value
    if not (has_state(gate, state) and is_readings(len(gate.clocks), readings)):
        return False
    return stay_holds(gate, state, readings)


def stay_holds(gate, state, readings):
    """Does the stay of the state hold for the readings?"""
    test = [(clock, ((0, 1), edge)) for clock, edge in gate.stay_of(state)]
    return test_holds(gate, test, readings)


def test_holds(gate, test, readings):
    """Does each clock of the test read a moment in its span?"""
    return all(in_span(readings[gate.clock_number(clock) - 1], span) for clock, span in test)


def start(gate):
    """The standing at moment zero."""
    state, _ = gate.states[0]
    return state, ((0, 1),) * len(gate.clocks)


def room(gate, standing):
    """None if all rests are let, or the pair of the moment up to which they are let and its reach."""
    state, readings = standing
    least = None
    for clock, (limit, reach) in gate.stay_of(state):
        left = since(readings[gate.clock_number(clock) - 1], (limit, 1))
        place = -1 if least is None else compared(left, least[0])
        if place < 0 or (place == 0 and reach == 0):
            least = (left, reach)
    return least


def rested(gate, standing, rest):
    """The standing after the rest."""
    found = after_rest(gate, standing, rest)
    if found is None:
        raise RestBlocked(standing[0])
    return found


def after_rest(gate, standing, rest):
    """The standing after the rest, or None if it is not let."""
    state, readings = standing
    advanced = tuple([added(reading, rest) for reading in readings])
    return (state, advanced) if stay_holds(gate, state, advanced) else None


def steps_let(gate, standing):
    """The ascending indices of the steps that are let."""
    state, _ = standing
    return tuple([step for step in gate.steps_from(state) if after_step(gate, standing, step) is not None])


def done(gate, standing, step):
    """The standing after the step."""
    found = after_step(gate, standing, step)
    if found is None:
        raise NotLet(step)
    return found


def after_step(gate, standing, step):
    """The standing after the step with this index, or None if it is not let."""
    if not 0 <= step < len(gate.steps):
        return None
    state, readings = standing
    source, _, test, restarts, target = gate.steps[step]
    if source != state or not test_holds(gate, test, readings):
        return None
    zeroed = [gate.clock_number(clock) for clock in restarts]
    changed = tuple([(0, 1) if k in zeroed else reading for k, reading in enumerate(readings, 1)])
    return (target, changed) if stay_holds(gate, target, changed) else None


def steps_with(gate, standing, rest, deed):
    """Pairs of a step with the deed that is let after the rest, and the standing after it; ascending."""
    advanced = after_rest(gate, standing, rest)
    if advanced is None:
        return []
    steps = [step for step in gate.steps_from(advanced[0]) if gate.steps[step][1] == deed]
    pairs = [(step, after_step(gate, advanced, step)) for step in steps]
    return [(step, target) for step, target in pairs if target is not None]


def fans_of(gate, row):
    """For each entry of the row a dict from the standings before it to their steps; and the standings after the row.

    Standings come in the order of their least paths.
    """
    fans = []
    reached = [start(gate)]
    now = (0, 1)
    for moment, deed in row:
        rest = since(now, moment)
        fans.append({standing: steps_with(gate, standing, rest, deed) for standing in reached})
        reached = targets_of(fans[-1])
        now = moment
    return fans, reached


def targets_of(fan):
    """The different standings that the steps of a fan lead to."""
    # A path through an earlier standing is less than one through a later standing, whatever
    # steps follow. So a standing stands at the place where it is found first.
    found = {}
    for steps in fan.values():
        for _, target in steps:
            found[target] = True
    return list(found)


def lets(gate, row):
    """Does the gate let the row?"""
    check_row(row)
    _, reached = fans_of(gate, row)
    return reached != []


def standings(gate, row):
    """All standings at which let runs with this row and the rest zero end."""
    check_row(row)
    fans, reached = fans_of(gate, row)
    if not reached:
        # The entry that fails is the last one with standings before it.
        raise NotLet(len([fan for fan in fans if fan]) - 1)
    return tuple(reached)


def paths(gate, row):
    """All paths of the row, ascending."""
    check_row(row)
    fans, reached = fans_of(gate, row)
    # Built from the end on, so that steps after which the row fails are never followed.
    ends = {standing: [()] for standing in reached}
    for fan in reversed(fans):
        ends = {standing: longer_ends(steps, ends) for standing, steps in fan.items()}
    return tuple(ends[start(gate)])


def longer_ends(steps, ends):
    """The ends of paths that begin with one of the steps and go on with an end from its target."""
    return [(step, *end) for step, target in steps for end in ends[target]]


def is_path(gate, value):
    """Is the value a tuple of indices of steps of the gate?"""
    if not isinstance(value, tuple):
        return False
    return all(is_whole(step) and 0 <= step < len(gate.steps) for step in value)


def is_run(gate, value):
    """Is the value a let run of the gate?"""
    if not is_tuple_of(3, value):
        return False
    row, path, rest = value
    if not (is_row(row) and is_path(gate, path) and is_moment(rest)) or len(row) != len(path):
        return False
    _, standing = followed(gate, value)
    return standing is not None


def standing_after(gate, run):
    """The standing at the end of the run."""
    count, standing = followed(gate, run)
    if standing is None:
        raise NotLet(count)
    return standing


def followed(gate, run):
    """How many entries of the run are let, and the standing at its end, or None if the run is not let."""
    row, path, rest = run
    standing = start(gate)
    now = (0, 1)
    for index, ((moment, deed), step) in enumerate(zip(row, path)):
        found = dict(steps_with(gate, standing, since(now, moment), deed))
        if step not in found:
            return index, None
        standing = found[step]
        now = moment
    return len(row), after_rest(gate, standing, rest)
