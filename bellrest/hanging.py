"""Hanging: standings at which no step is let any more although rests come to an end."""

from bellrest.kinds import sample
from bellrest.lots import parts_without
from bellrest.moves import cut, earlier
from bellrest.pathtables import run_into
from bellrest.spots import met_spots
from bellrest.tables import anything, keeps
from bellrest.zones import each_zone, path_zone, stay_test, step_test


def stuck(gate, standing):
    """Is the standing stuck?"""
    state, readings = standing
    return is_stuck(gate, ready_tables(gate, state), state, readings)


def stuck_spots(gate):
    """The met spots whose standings are stuck, in their order."""
    ready = {state: ready_tables(gate, state) for state, _ in gate.states}
    return tuple([(state, kind) for state, kind in met_spots(gate)
                  if is_stuck(gate, ready[state], state, sample(kind, gate.ceilings))])


def hang_run(gate):
    """Some let run with the fewest entries that ends at a stuck standing, or None."""
    ceilings = gate.ceilings
    for state, table, path in each_zone(gate, ceilings):
        if stuck_tables(gate, state, table):
            # The table may have been widened. A run needs readings to which the path really leads.
            return run_into(gate, path, stuck_tables(gate, state, path_zone(gate, path))[0])
    return None


def ready_tables(gate, state):
    """Shut tables of the readings at which some step is let or will be let after a rest, one for each step."""
    ready = []
    for step in gate.steps_from(state):
        test = stay_test(gate, state) + step_test(gate, step)
        ready.append(earlier(cut(anything(len(gate.clocks)), *test)))
    return [table for table in ready if table is not None]


def has_room_for_all(gate, state):
    """Are all rests let in the state?"""
    # Each pair of a stay is an upper limit for a clock.
    return gate.stay_of(state) == ()


def is_stuck(gate, ready, state, readings):
    """Are the readings stuck in the state, for which these are the ready tables?"""
    return not has_room_for_all(gate, state) and not any(keeps(table, readings) for table in ready)


def stuck_tables(gate, state, table):
    """Shut tables that make up the stuck readings of a shut table for whose readings the stay holds."""
    return [] if has_room_for_all(gate, state) else parts_without([table], ready_tables(gate, state))
