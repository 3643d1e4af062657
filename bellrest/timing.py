"""Soonest and latest: the limits of the moments at which something happens."""

from bellrest.errors import UnknownName
from bellrest.goals import goal_ceilings
from bellrest.graphs import exact_edges, greatest_weights, heavy_loops, leading_to, least_weights, marks_between
from bellrest.hands import (
    HAND_CEILING, edge_from, first_hand_spot, hand_graph, high_edge, hours_table, low_edge, meets_at)
from bellrest.kinds import kind_after, kind_of, rest_to
from bellrest.kindsteps import step_in_kind
from bellrest.moments import added
from bellrest.pathtables import path_table, run_with
from bellrest.points import near
from bellrest.running import after_rest, after_step, start
from bellrest.spans import hour_of, low_order
from bellrest.spots import met_spots


def soonest(gate, goal):
    """The edge of the greatest lower limit of the ends of let runs that meet the goal, or None."""
    return edge_from(gate, goal, hours_table(gate, goal))


def soon_run(gate, goal, within):
    """Some let run that meets the goal at its end, which is at the limit or so near above it; or None."""
    ceilings = goal_ceilings(gate, goal)
    spots, graph = hand_graph(gate, ceilings, [first_hand_spot(gate, ceilings)], ())
    hours = least_weights(graph, [0])
    edges = {node: low_edge(spot, hours[node]) for node, spot in enumerate(spots) if meets_at(gate, goal, spot)}
    if edges == {}:
        return None
    lowest = min(list(edges.values()), key=low_order)
    ends = [node for node in edges if edges[node] == lowest]
    moves, _ = marks_between(exact_edges(graph, hours), 0, ends)
    path = steps_among(moves)
    moments = near(path_table(gate, path, goal[1]), 0, len(path) + 1, within)
    return run_with(gate, path, moments)


def steps_among(moves):
    """The steps among the moves."""
    return tuple([move for move in moves if move != "rest"])


def check_deed(gate, deed):
    """Raise UnknownName if the gate does not have the deed."""
    if deed not in gate.deeds:
        raise UnknownName(deed)


def step_with(gate, spot, deed):
    """The first step with the deed that is let at the spot, or None."""
    for step in gate.steps_from(spot[0]):
        if gate.steps[step][1] == deed and step_in_kind(gate, spot, step) is not None:
            return step
    return None


def nodes_with(gate, spots, deed):
    """The indices of the spots at which a step with the deed is let."""
    return [node for node, spot in enumerate(spots) if step_with(gate, spot, deed) is not None]


def graph_without(gate, deed):
    """The hand spots that are met before the deed happens, and their graph."""
    return hand_graph(gate, gate.ceilings, [first_hand_spot(gate, gate.ceilings)], (deed,))


def limits_of(spots, graph, starts, ends):
    """The pair of edges of the moments at which one of the ends is met, counted from the starts; None without ends."""
    if ends == []:
        return None
    hours = least_weights(graph, starts)
    low = min([low_edge(spots[node], hours[node]) for node in ends], key=low_order)
    return low, last_limit(spots, graph, starts, ends)


def last_limit(spots, graph, starts, ends):
    """The edge of the least upper limit of the moments at which one of the ends is met, or None."""
    useful = leading_to(graph, ends)
    if heavy_loops(useful):
        return None
    hours = greatest_weights(useful, starts)
    return max([high_edge(spots[node], hours[node]) for node in ends])


def first_span(gate, deed):
    """The pair of limits of the moments at which the deed happens for the first time, or None."""
    check_deed(gate, deed)
    spots, graph = graph_without(gate, deed)
    return limits_of(spots, graph, [0], nodes_with(gate, spots, deed))


def longest_without(gate, deed):
    """The edge of the least upper limit of the ends of let runs without the deed, or None."""
    check_deed(gate, deed)
    spots, graph = graph_without(gate, deed)
    return last_limit(spots, graph, [0], list(range(len(spots))))


def between(gate, first, second):
    """The pair of limits of the rests from the first deed to the second one over all passages, or None."""
    check_deed(gate, first)
    check_deed(gate, second)
    starts = spots_after(gate, first)
    spots, graph = hand_graph(gate, gate.ceilings, starts, (first, second))
    return limits_of(spots, graph, list(range(len(starts))), nodes_with(gate, spots, second))


def spots_after(gate, deed):
    """The different hand spots directly after the deed, if the hand starts with it."""
    found = {}
    for spot in met_spots(gate):
        for step in gate.steps_from(spot[0]):
            after = step_in_kind(gate, spot, step) if gate.steps[step][1] == deed else None
            if after is not None:
                found[with_hand(after)] = True
    return list(found)


def with_hand(spot):
    """The hand spot of the spot when the hand reads zero."""
    state, (wholes, order) = spot
    return state, ((*wholes, 0), ((*order[0], len(wholes) + 1), *order[1:]))


def late_run(gate, deed, within):
    """Some let run that ends with the first time of the deed, at the upper limit or so near to it; or None."""
    check_deed(gate, deed)
    spots, graph = graph_without(gate, deed)
    ends = nodes_with(gate, spots, deed)
    if ends == []:
        return None
    useful = leading_to(graph, ends)
    loops = heavy_loops(useful)
    if loops:
        return endless_run(gate, deed, within, spots, useful, ends, loops)
    hours = greatest_weights(useful, [0])
    limit = max([high_edge(spots[node], hours[node]) for node in ends])
    latest = [node for node in ends if high_edge(spots[node], hours[node]) == limit]
    moves, end = marks_between(exact_edges(useful, hours), 0, latest)
    return late_run_of_path(gate, (*steps_among(moves), step_with(gate, spots[end], deed)), within)


def late_run_of_path(gate, path, within):
    """The run with this path and the rest zero whose last moment is so near to its upper limit."""
    last = len(path)
    moments = near(path_table(gate, path), last, 0, within)[:last]
    return run_with(gate, path, (*moments, moments[-1]))


def endless_run(gate, deed, within, spots, graph, ends, loops):
    """A run that ends with the deed at the moment within or later, where loops of the graph count hours."""
    idle = [loop for loop in loops if is_idle(spots[loop[0]])]
    node, (target, _, mark) = idle[0] if idle else loops[0]
    stem, _ = marks_between(graph, 0, [node])
    back, _ = marks_between(graph, target, [node])
    tail, end = marks_between(graph, node, ends)
    last = [*tail, step_with(gate, spots[end], deed)]
    if idle:
        # One long rest takes the place of many loops.
        return late_run_of_path(gate, steps_among(stem + last), within)
    return run_of_hand_moves(gate, stem + [mark, *back] * hour_of(within, "up") + last)


def is_idle(spot):
    """Are all clocks but the hand beyond their ceilings?"""
    _, (wholes, order) = spot
    return sum([len(group) for group in order]) == 1


def run_of_hand_moves(gate, moves):
    """A let run with the rest zero that follows the hand moves, the last of which is a step."""
    ceilings = (*gate.ceilings, HAND_CEILING)
    standing = start(gate)
    now = hand = (0, 1)
    row = []
    for move in moves:
        if move == "rest":
            readings = (*standing[1], hand)
            rest = rest_to(readings, kind_after(kind_of(readings, ceilings), ceilings), ceilings)
            standing = after_rest(gate, standing, rest)
            now = added(now, rest)
            hand = added(hand, rest) if added(hand, rest) != (1, 1) else (0, 1)
        else:
            standing = after_step(gate, standing, move)
            row.append((now, gate.steps[move][1]))
    return tuple(row), steps_among(moves), (0, 1)
