"""Rows of one gate within those of another one."""

from bellrest.errors import NotSettled
from bellrest.forms import is_tuple_of
from bellrest.graphs import explored
from bellrest.jointzones import first_extra_row
from bellrest.kinds import is_kind, kind_after, restart_kind
from bellrest.kindsteps import kind_stays, steps_in_kind
from bellrest.running import has_state
from bellrest.spots import spot_rest


def check_settled(gate):
    """Raise NotSettled if the gate is not settled."""
    pair = gate.overlap()
    if pair is not None:
        state, deed, _, _, _ = gate.steps[pair[0]]
        raise NotSettled(state, deed)


def extra_row(one, other):
    """Some row with the fewest entries that one gate lets and the other does not let, or None."""
    check_settled(other)
    return first_extra_row(one, other)


def within_table(one, other):
    """The joint spots to which rests and pairs of steps lead, or None if the rows are not within."""
    if extra_row(one, other) is not None:
        return None
    spots, _ = explored([first_joint_spot(one, other)], lambda spot: joint_edges(one, other, spot))
    keys = sorted([(one.state_index(state), other.state_index(more), kind) for state, more, kind in spots])
    return tuple([(one.states[place][0], other.states[more][0], kind) for place, more, kind in keys])


def is_within_table(one, other, value):
    """Is the value a within table?"""
    check_settled(other)
    if not isinstance(value, tuple) or not all(is_joint_spot(one, other, spot) for spot in value):
        return False
    spots = set(value)
    if first_joint_spot(one, other) not in spots:
        return False
    for spot in value:
        found = joint_spots_after(one, other, spot)
        if found is None or not all([after in spots for after in found]):
            return False
    return True


def first_joint_spot(one, other):
    """The joint spot of the start."""
    many = len(one.clocks) + len(other.clocks)
    return one.states[0][0], other.states[0][0], ((0,) * many, (tuple(range(1, many + 1)),))


def is_joint_spot(one, other, value):
    """Is the value a joint spot of the gates?"""
    if not is_tuple_of(3, value):
        return False
    state, more, kind = value
    if not (has_state(one, state) and has_state(other, more) and is_kind(one.ceilings + other.ceilings, kind)):
        return False
    return both_stay(one, other, value)


def spot_of_one(one, spot):
    """The spot of the first gate at a joint spot."""
    state, _, kind = spot
    return state, kind_of_clocks(kind, 0, len(one.clocks))


def spot_of_other(one, spot):
    """The spot of the second gate at a joint spot."""
    _, state, kind = spot
    return state, kind_of_clocks(kind, len(one.clocks), len(kind[0]))


def kind_of_clocks(kind, first, last):
    """The kind of the clocks with the numbers from first + 1 to last, which are numbered from 1 again."""
    wholes, order = kind
    groups = [tuple([clock - first for clock in group if first < clock <= last]) for group in order]
    return wholes[first:last], (groups[0], *[group for group in groups[1:] if group])


def both_stay(one, other, spot):
    """Do the stays of both gates hold at the joint spot?"""
    return stays(one, spot_of_one(one, spot)) and stays(other, spot_of_other(one, spot))


def stays(gate, spot):
    """Does the stay of the state hold for readings of the kind?"""
    state, kind = spot
    return kind_stays(gate, state, kind)


def joint_edges(one, other, spot):
    """The joint spots after one move from a joint spot of gates whose rows are within, with weights and marks."""
    return [(after, 0, None) for after in joint_spots_after(one, other, spot)]


def joint_spots_after(one, other, spot):
    """The joint spots after the rest and pairs of steps; None if the first gate can do what the second cannot do."""
    found = []
    for step, _ in steps_in_kind(one, spot_of_one(one, spot)):
        match = match_at(one, other, spot, step)
        if match is None:
            return None
        found.append(after_both(one, other, spot, step, match))
    state, more, kind = spot
    rested = (state, more, kind_after(kind, one.ceilings + other.ceilings))
    if both_stay(one, other, rested):
        return [rested, *found]
    left = spot_of_one(one, rested)
    return found if not stays(one, left) or is_silent(one, left) else None


def match_at(one, other, spot, step):
    """The step of the second gate that is let at the joint spot and has the deed of this step of the first one."""
    for match, _ in steps_in_kind(other, spot_of_other(one, spot)):
        if other.steps[match][1] == one.steps[step][1]:
            return match
    return None


def after_both(one, other, spot, step, match):
    """The joint spot after a step of each gate."""
    _, _, _, restarts, target = one.steps[step]
    _, _, _, more, end = other.steps[match]
    zeroed = [one.clock_number(clock) for clock in restarts]
    zeroed.extend([other.clock_number(clock) + len(one.clocks) for clock in more])
    return target, end, restart_kind(spot[2], tuple(zeroed))


def is_silent(gate, spot):
    """Does the gate let no step at the spot and after any rest from there?"""
    now = None
    after = spot
    while after is not None and after != now:
        now = after
        if steps_in_kind(gate, now):
            return False
        after = spot_rest(gate, now)
    return True
