"""Hurry: endless rows whose moments stay below some limit."""

from bellrest.forms import is_tuple_of, is_whole
from bellrest.graphs import components, group_numbers, marks_between
from bellrest.hands import first_hand_spot, hand_graph, hand_moves, is_hand_spot
from bellrest.kindsteps import in_spot_order
from bellrest.pathtables import least_moments, path_conditions, run_with
from bellrest.timing import steps_among


def hurry(gate):
    """Some pair of a stem and a loop that can be run through again and again within an hour, or None."""
    _, graph = hand_graph(gate, gate.ceilings, [first_hand_spot(gate, gate.ceilings)], ())
    within = within_hours(graph)
    numbers = group_numbers(within, components(within))
    for node, edges in enumerate(within):
        for target, _, move in edges:
            if move != "rest" and numbers[target] == numbers[node]:
                stem, _ = marks_between(graph, 0, [node])
                back, _ = marks_between(within, target, [node])
                return steps_among(stem), steps_among([move, *back])
    return None


def within_hours(graph):
    """The graph without the rests that count an hour."""
    return [[edge for edge in edges if edge[1] == 0] for edges in graph]


def hurry_run(gate, rounds):
    """Some let run through the stem and so many rounds of the loop that hurry returns, within an hour; or None."""
    found = hurry(gate)
    if found is None:
        return None
    stem, loop = found
    path = stem + loop * rounds
    last = len(path)
    conditions = path_conditions(gate, path, ())
    conditions.append((last, len(stem) + 1, (1, 0)))
    moments = least_moments(last + 1, conditions)[:last]
    return run_with(gate, path, (*moments, moments[-1]))


def is_ranked_spot(gate, value):
    """Is the value a pair of a hand spot and a rank?"""
    if not is_tuple_of(2, value):
        return False
    spot, rank = value
    return is_hand_spot(gate, gate.ceilings, spot) and is_whole(rank) and rank >= 0


def is_calm(gate, value):
    """Is the value calm ranks of the gate?"""
    if not isinstance(value, tuple) or not all(is_ranked_spot(gate, pair) for pair in value):
        return False
    ranks = {spot: rank for spot, rank in value}
    if len(ranks) != len(value) or first_hand_spot(gate, gate.ceilings) not in ranks:
        return False
    for spot, rank in value:
        for move, after, hours in hand_moves(gate, gate.ceilings, spot):
            if after not in ranks:
                return False
            if hours == 0 and ranks[after] > (rank if move == "rest" else rank - 1):
                return False
    return True


def calm_ranks(gate):
    """Some calm ranks of the gate, or None if it can be hurried."""
    spots, graph = hand_graph(gate, gate.ceilings, [first_hand_spot(gate, gate.ceilings)], ())
    within = within_hours(graph)
    groups = components(within)
    numbers = group_numbers(within, groups)
    ranks = [0] * len(groups)
    # Edges lead to the same or later groups. A group with one step in it is a loop.
    for number in reversed(range(len(groups))):
        for node in groups[number]:
            for target, _, move in within[node]:
                more = 0 if move == "rest" else 1
                if numbers[target] == number and more == 1:
                    return None
                ranks[number] = max(ranks[number], ranks[numbers[target]] + more)
    found = {spot: ranks[numbers[node]] for node, spot in enumerate(spots)}
    return tuple([(spot, found[spot]) for spot in in_spot_order(gate, spots)])
