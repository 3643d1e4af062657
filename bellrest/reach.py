"""Whether a goal can be met, with a run or with patches that show the answer."""

from bellrest.goals import goal_ceilings
from bellrest.patches import is_goal_in
from bellrest.pathtables import run_of
from bellrest.zones import each_zone


def find(gate, goal):
    """Some let run with the fewest entries at whose end the goal is met, or None."""
    ceilings = goal_ceilings(gate, goal)
    for state, table, path in each_zone(gate, ceilings):
        if is_goal_in(gate, goal, state, table):
            return run_of(gate, path, goal[1])
    return None


def never(gate, goal):
    """Some closed tuple of patches that avoids the goal, or None if the goal can be met."""
    ceilings = goal_ceilings(gate, goal)
    patches = []
    for state, table, _ in each_zone(gate, ceilings):
        if is_goal_in(gate, goal, state, table):
            return None
        patches.append((state, table))
    return tuple(patches)
