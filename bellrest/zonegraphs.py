"""Graphs of zones, which tell of all paths at once.

Zones are one node only if they are equal. So every path in a graph is the path of some run, also
one that goes through a loop again and again. A zone is a pair of a state and a table.
"""

from bellrest.graphs import explored
from bellrest.tables import all_zero
from bellrest.zones import rested_zone, stepping


def zone_graph(gate, ends=()):
    """The zones of the gate and the graph of the steps, which have the weight 0.

    The start is the first zone. From the states in ends no step is followed.
    """
    state, _ = gate.states[0]
    first = (state, rested_zone(gate, gate.ceilings, state, all_zero(len(gate.clocks))))
    return explored([first], lambda zone: [] if zone[0] in ends else zone_edges(gate, zone))


def zone_edges(gate, zone):
    """The zones after one step from the zone, with weight 0 and the step."""
    state, table = zone
    edges = []
    for step in gate.steps_from(state):
        after = stepping(gate, table, step)
        if after is not None:
            target = gate.steps[step][4]
            edges.append(((target, rested_zone(gate, gate.ceilings, target, after)), 0, step))
    return edges
