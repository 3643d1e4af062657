"""Goals: a state and a test that a standing meets or not."""

from bellrest.errors import InvalidGoal
from bellrest.forms import is_tuple_of
from bellrest.gateforms import is_test
from bellrest.running import has_state, test_holds


def is_goal(gate, value):
    """Is the value a goal of the gate?"""
    if not is_tuple_of(2, value):
        return False
    state, test = value
    return (state is None or has_state(gate, state)) and is_test(gate.clocks, test)


def check_goal(gate, goal):
    """Raise InvalidGoal if this is not a goal of the gate."""
    if not is_goal(gate, goal):
        raise InvalidGoal(goal)


def meets(gate, goal, standing):
    """Does the standing meet the goal?"""
    check_goal(gate, goal)
    state, readings = standing
    return is_goal_state(goal, state) and test_holds(gate, goal[1], readings)


def is_goal_state(goal, state):
    """Is this the state of the goal, or has the goal no state?"""
    return goal[0] is None or goal[0] == state


def goal_ceilings(gate, goal):
    """The ceilings of the gate, raised to the limits of the goal."""
    check_goal(gate, goal)
    ceilings = list(gate.ceilings)
    for clock, span in goal[1]:
        place = gate.clock_number(clock) - 1
        for edge in span:
            if edge is not None:
                ceilings[place] = max(ceilings[place], edge[0])
    return tuple(ceilings)
