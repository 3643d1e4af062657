"""Trimming: steps and states that no run ever uses."""

from bellrest.gates import Gate
from bellrest.zones import each_zone, stepping


def unused_steps(gate):
    """The ascending indices of the steps that no let run takes."""
    used = {}
    ceilings = gate.ceilings
    for state, table, _ in each_zone(gate, ceilings):
        for step in gate.steps_from(state):
            if step not in used and stepping(gate, table, step) is not None:
                used[step] = True
    return tuple([step for step in range(len(gate.steps)) if step not in used])


def unmet_states(gate):
    """The states in which no let run ends, in the order of the gate."""
    ceilings = gate.ceilings
    met = {state: True for state, _, _ in each_zone(gate, ceilings)}
    return tuple([state for state, _ in gate.states if state not in met])


def trimmed(gate):
    """The gate without the unused steps and the unmet states."""
    unused, unmet = unused_steps(gate), unmet_states(gate)
    states = tuple([pair for pair in gate.states if pair[0] not in unmet])
    steps = tuple([step for index, step in enumerate(gate.steps) if index not in unused])
    return Gate(gate.name, gate.clocks, states, steps, gate.deeds)
