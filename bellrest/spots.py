"""Spots: a state with a kind of readings, and the moves that lead from spot to spot."""

from bellrest.errors import NotLet
from bellrest.forms import is_tuple_of, is_whole
from bellrest.graphs import marks_back
from bellrest.kinds import is_kind, kind_after, kind_of, rest_to
from bellrest.kindsteps import in_spot_order, kind_stays, step_in_kind, steps_in_kind
from bellrest.moments import added, since
from bellrest.running import after_rest, after_step, has_state, start


def spot_of(gate, standing):
    """The spot of the standing."""
    state, readings = standing
    return state, kind_of(readings, gate.ceilings)


def is_spot(gate, value):
    """Is the value a spot of the gate?"""
    if not is_tuple_of(2, value):
        return False
    state, kind = value
    return has_state(gate, state) and is_kind(gate.ceilings, kind) and kind_stays(gate, state, kind)


def spot_rest(gate, spot):
    """The spot with the next kind, or None if the stay does not hold there."""
    state, kind = spot
    after = kind_after(kind, gate.ceilings)
    return (state, after) if kind_stays(gate, state, after) else None


def spot_steps(gate, spot):
    """The ascending indices of the steps that are let."""
    return tuple([step for step, _ in steps_in_kind(gate, spot)])


def spot_after(gate, spot, step):
    """The spot after the step."""
    found = step_in_kind(gate, spot, step)
    if found is None:
        raise NotLet(step)
    return found


def moves_from(gate, spot):
    """Pairs of a move that is possible at the spot, and the spot after it."""
    rested = spot_rest(gate, spot)
    pairs = steps_in_kind(gate, spot)
    return pairs if rested is None else [("rest", rested), *pairs]


def arrivals(gate, wanted):
    """Each spot that is met, with the spot before it and the move between them; ends when the wanted spot is found.

    The first spot has None. The pairs lead back over a shortest tuple of moves.
    """
    first = spot_of(gate, start(gate))
    found = {first: None}
    latest = [first]
    while latest and wanted not in found:
        reached = []
        for spot in latest:
            for move, after in moves_from(gate, spot):
                if after not in found:
                    found[after] = (spot, move)
                    reached.append(after)
        latest = reached
    return found


def met_spots(gate):
    """All met spots, ordered by state and kind."""
    return in_spot_order(gate, arrivals(gate, None))


def is_closed_spots(gate, value):
    """Is the value a tuple of spots that contains the first spot and whatever moves lead to?"""
    if not isinstance(value, tuple) or not all(is_spot(gate, spot) for spot in value):
        return False
    spots = set(value)
    if spot_of(gate, start(gate)) not in spots:
        return False
    for spot in value:
        for _, after in moves_from(gate, spot):
            if after not in spots:
                return False
    return True


def moves_to(gate, spot):
    """Some shortest tuple of moves that leads to the spot, or None if it is not met."""
    found = arrivals(gate, spot)
    return tuple(marks_back(found, spot)) if spot in found else None


def run_of_moves(gate, moves):
    """Some let run whose standings follow the moves."""
    standing = start(gate)
    now = last = (0, 1)
    row = []
    path = []
    for index, move in enumerate(moves):
        rest = rest_of_move(gate, standing, move)
        if rest is None:
            raise NotLet(index)
        now = added(now, rest)
        standing = after_rest(gate, standing, rest)
        if move != "rest":
            standing = after_step(gate, standing, move)
            row.append((now, gate.steps[move][1]))
            path.append(move)
            last = now
    return tuple(row), tuple(path), since(last, now)


def rest_of_move(gate, standing, move):
    """The rest that the move takes at the standing, zero for a step, or None if the move is not possible."""
    if move == "rest":
        after = spot_rest(gate, spot_of(gate, standing))
        return None if after is None else rest_to(standing[1], after[1], gate.ceilings)
    return (0, 1) if is_whole(move) and after_step(gate, standing, move) is not None else None
