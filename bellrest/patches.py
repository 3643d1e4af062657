"""Patches: states with shut tables that together show which standings there can be."""

from bellrest.forms import is_tuple_of
from bellrest.goals import check_goal, is_goal_state
from bellrest.moves import caps_inside
from bellrest.running import has_state
from bellrest.shutting import is_shut
from bellrest.tables import all_zero
from bellrest.zones import meeting, resting, stepping


def is_patch(gate, value):
    """Is the value a pair of a state and a shut table over the clocks of the gate?"""
    if not is_tuple_of(2, value):
        return False
    state, table = value
    return has_state(gate, state) and is_tuple_of(len(gate.clocks) + 1, table) and is_shut(table)


def is_closed_patches(gate, value):
    """Is the value a closed tuple of patches?"""
    if not isinstance(value, tuple) or not all(is_patch(gate, patch) for patch in value):
        return False
    state, _ = gate.states[0]
    if not is_covered(value, state, all_zero(len(gate.clocks))):
        return False
    for state, table in value:
        if not is_covered(value, state, resting(gate, state, table)):
            return False
        for step in gate.steps_from(state):
            if not is_covered(value, gate.steps[step][4], stepping(gate, table, step)):
                return False
    return True


def is_covered(patches, state, table):
    """Does one patch of the state contain the lot of this shut table, which may be None?"""
    if table is None:
        return True
    return any(name == state and caps_inside(table, other) for name, other in patches)


def avoids(gate, goal, patches):
    """Does no patch contain readings that meet the goal, and for which the stay of its state holds?"""
    check_goal(gate, goal)
    return not any(is_goal_in(gate, goal, state, table) for state, table in patches)


def is_goal_in(gate, goal, state, table):
    """Do some readings of the table meet the goal in this state, and does the stay hold for them?"""
    return is_goal_state(goal, state) and meeting(gate, state, goal[1], table) is not None
