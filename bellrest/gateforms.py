"""The forms of the parts of a gate, and the first fault in them."""

from bellrest.forms import is_tuple_of
from bellrest.names import is_name, is_simple
from bellrest.spans import is_edge, is_span

MOST_CLOCKS = 6
MOST_STATES = 64
MOST_STEPS = 400


def first_fault(name, clocks, states, steps, also):
    """The first wrong part of a gate with the index of its first wrong item, or None."""
    if not is_name(name):
        return "name", 0
    index = wrong_clock(clocks)
    if index is not None:
        return "clocks", index
    index = wrong_state(clocks, states)
    if index is not None:
        return "states", index
    index = wrong_step(clocks, [state for state, _ in states], steps)
    if index is not None:
        return "steps", index
    index = wrong_deed(also)
    return None if index is None else ("also", index)


def wrong_clock(clocks):
    """The index of the first wrong clock, or None."""
    if not isinstance(clocks, tuple) or clocks == ():
        return 0
    for index, clock in enumerate(clocks):
        if index >= MOST_CLOCKS or not is_name(clock) or clock in clocks[:index]:
            return index
    return None


def wrong_state(clocks, states):
    """The index of the first wrong state, or None."""
    if not isinstance(states, tuple) or states == ():
        return 0
    names = []
    for index, state in enumerate(states):
        if index >= MOST_STATES or not is_state(clocks, state) or state[0] in names:
            return index
        names.append(state[0])
    return None


def wrong_step(clocks, names, steps):
    """The index of the first wrong step between the states with these names, or None."""
    if not isinstance(steps, tuple):
        return 0
    for index, step in enumerate(steps):
        if index >= MOST_STEPS or not is_step(clocks, names, step):
            return index
    return None


def wrong_deed(also):
    """The index of the first wrong deed, or None."""
    if not isinstance(also, tuple):
        return 0
    names = set()
    for index, deed in enumerate(also):
        if not is_simple(deed) or deed in names:
            return index
        names.add(deed)
    return None


def is_state(clocks, value):
    """Is the value a pair of a name and a stay over the clocks?"""
    return is_tuple_of(2, value) and is_name(value[0]) and is_stay(clocks, value[1])


def is_stay(clocks, value):
    """Is the value a stay over the clocks?"""
    return has_each_clock_once(clocks, value) and all(is_stay_edge(edge) for _, edge in value)


def is_stay_edge(value):
    """Is the value an edge that may stand in a stay?"""
    return is_edge(value) and value[0] >= 0 and value != (0, 0)


def is_test(clocks, value):
    """Is the value a test over the clocks?"""
    return has_each_clock_once(clocks, value) and all(is_span(span) for _, span in value)


def has_each_clock_once(clocks, value):
    """Is the value a tuple of pairs that begin with different clocks?"""
    if not isinstance(value, tuple) or not all(is_tuple_of(2, pair) for pair in value):
        return False
    return are_different_names(clocks, tuple([clock for clock, _ in value]))


def are_different_names(names, value):
    """Is the value a tuple of different ones of these names?"""
    if not isinstance(value, tuple) or not all(name in names for name in value):
        return False
    return len(set(value)) == len(value)


def is_step(clocks, names, value):
    """Is the value a step between the states with these names?"""
    if not is_tuple_of(5, value):
        return False
    source, deed, test, restarts, target = value
    if not (source in names and is_simple(deed) and target in names):
        return False
    return is_test(clocks, test) and are_different_names(clocks, restarts)
