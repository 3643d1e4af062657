"""The hand: one more clock that is set back at every full hour, so that hours are counted."""

from bellrest.errors import NotLet
from bellrest.forms import is_tuple_of, is_whole
from bellrest.goals import check_goal, goal_ceilings, is_goal_state
from bellrest.graphs import explored, least_weights
from bellrest.kinds import is_kind, kind_after, restart_kind
from bellrest.kindsteps import in_spot_order, kind_meets, kind_stays, step_in_kind, steps_in_kind
from bellrest.running import has_state
from bellrest.spans import low_order

HAND_CEILING = 1


def first_hand_spot(gate, ceilings):
    """The hand spot of the start."""
    state, _ = gate.states[0]
    many = len(ceilings) + 1
    return state, ((0,) * many, (tuple(range(1, many + 1)),))


def hand_rest(gate, ceilings, spot):
    """The hand spot to which the rest leads and the hours that it counts, or None."""
    state, kind = spot
    after = kind_after(kind, (*ceilings, HAND_CEILING))
    if not kind_stays(gate, state, after):
        return None
    hours = after[0][-1]
    if hours == 0:
        return (state, after), 0
    return (state, restart_kind(after, (len(ceilings) + 1,))), hours


def hand_after(gate, spot, step):
    """The hand spot after the step."""
    found = step_in_kind(gate, spot, step)
    if found is None:
        raise NotLet(step)
    return found


def hand_moves(gate, ceilings, spot):
    """The hand moves: triples of "rest" or a step, the hand spot after it, and the hours counted."""
    moves = [(step, after, 0) for step, after in steps_in_kind(gate, spot)]
    rested = hand_rest(gate, ceilings, spot)
    return moves if rested is None else [("rest", *rested), *moves]


def is_hand_spot(gate, ceilings, value):
    """Is the value a hand spot over the ceilings?"""
    if not is_tuple_of(2, value):
        return False
    state, kind = value
    if not (has_state(gate, state) and is_kind((*ceilings, HAND_CEILING), kind)):
        return False
    return kind[0][-1] == 0 and kind_stays(gate, state, kind)


def is_counted_spot(gate, ceilings, value):
    """Is the value a pair of a hand spot and a number of hours?"""
    if not is_tuple_of(2, value):
        return False
    spot, hours = value
    return is_hand_spot(gate, ceilings, spot) and is_whole(hours) and hours >= 0


def is_hours_table(gate, ceilings, value):
    """Is the value an hours table over the ceilings?"""
    if not isinstance(value, tuple) or not all(is_counted_spot(gate, ceilings, pair) for pair in value):
        return False
    table = {spot: hours for spot, hours in value}
    if len(table) != len(value) or table.get(first_hand_spot(gate, ceilings)) != 0:
        return False
    for spot, hours in value:
        for _, after, counted in hand_moves(gate, ceilings, spot):
            if after not in table or table[after] > hours + counted:
                return False
    return True


def hand_graph(gate, ceilings, starts, avoided):
    """The hand spots to which hand moves lead, and the graph of the moves with the hours as weights.

    Steps with one of the avoided deeds are left out. The starts are different and come first.
    """
    return explored(starts, lambda spot: hand_edges(gate, ceilings, spot, avoided))


def hand_edges(gate, ceilings, spot, avoided):
    """The hand spots after one move from the hand spot, with the hours and the moves; without the avoided deeds."""
    return [(after, hours, move) for move, after, hours in hand_moves(gate, ceilings, spot)
            if move == "rest" or gate.steps[move][1] not in avoided]


def hours_table(gate, goal):
    """The hours table over the goal ceilings with the least hours for each hand spot that is met."""
    ceilings = goal_ceilings(gate, goal)
    spots, graph = hand_graph(gate, ceilings, [first_hand_spot(gate, ceilings)], ())
    table = {spot: hours for spot, hours in zip(spots, least_weights(graph, [0]))}
    return tuple([(spot, table[spot]) for spot in in_spot_order(gate, spots)])


def is_on_the_hour(spot):
    """Does the hand read zero at the hand spot?"""
    _, (wholes, order) = spot
    return len(wholes) in order[0]


def meets_at(gate, goal, spot):
    """Do the standings of the hand spot meet the goal?"""
    state, kind = spot
    return is_goal_state(goal, state) and kind_meets(gate, goal[1], kind)


def low_edge(spot, hours):
    """The edge of the moments at which a run is at the hand spot that was counted so many hours, from below."""
    return hours, 1 if is_on_the_hour(spot) else 0


def high_edge(spot, hours):
    """The edge of the moments at which a run is at the hand spot that was counted so many hours, from above."""
    return (hours, 1) if is_on_the_hour(spot) else (hours + 1, 0)


def edge_from(gate, goal, table):
    """The lowest edge that the hours table gives for the goal, or None."""
    check_goal(gate, goal)
    edges = [low_edge(spot, hours) for spot, hours in table if meets_at(gate, goal, spot)]
    return min(edges, key=low_order) if edges else None
