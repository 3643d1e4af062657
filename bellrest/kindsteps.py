"""Stays, tests and steps of a gate for readings of a kind.

The kind may be over more clocks than those of the gate, and over any ceilings that are not
less than those of the gate. So one function serves spots and hand spots.
"""

from bellrest.kinds import place_in, place_of, restart_kind


def kind_stays(gate, state, kind):
    """Does the stay of the state hold for readings of the kind?"""
    stay = [(clock, ((0, 1), edge)) for clock, edge in gate.stay_of(state)]
    return kind_meets(gate, stay, kind)


def kind_meets(gate, test, kind):
    """Does the test hold for readings of the kind?"""
    return all(place_in(place_of(kind, gate.clock_number(clock)), span) for clock, span in test)


def step_in_kind(gate, spot, step):
    """The state and the kind after the step with this index, or None if it is not let."""
    if not 0 <= step < len(gate.steps):
        return None
    state, kind = spot
    source, _, test, restarts, target = gate.steps[step]
    if source != state or not kind_meets(gate, test, kind):
        return None
    zeroed = restart_kind(kind, tuple([gate.clock_number(clock) for clock in restarts]))
    return (target, zeroed) if kind_stays(gate, target, zeroed) else None


def steps_in_kind(gate, spot):
    """Pairs of a step that is let at the spot, ascending, and the state and the kind after it."""
    pairs = [(step, step_in_kind(gate, spot, step)) for step in gate.steps_from(spot[0])]
    return [(step, after) for step, after in pairs if after is not None]


def spot_order(gate, spot):
    """A key by which spots are ordered."""
    state, kind = spot
    return gate.state_index(state), kind


def in_spot_order(gate, spots):
    """The spots in their order."""
    keys = sorted([spot_order(gate, spot) for spot in spots])
    return tuple([(gate.states[place][0], kind) for place, kind in keys])
