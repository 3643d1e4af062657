"""Halls: several gates that run side by side and meet at the deeds that they share."""

from bellrest.errors import InvalidHall, TooMany, UnknownName
from bellrest.gateforms import MOST_CLOCKS, MOST_STATES, MOST_STEPS
from bellrest.gates import Gate
from bellrest.moments import since
from bellrest.names import is_simple
from bellrest.running import after_rest, check_row, fans_of

MOST_GATES = 6


class Hall:
    """Some gates that start together."""

    def __init__(self, *gates):
        index = wrong_gate(gates)
        if index is not None:
            raise InvalidHall(index)
        self.gates = gates
        self._deeds = tuple(sorted(set([deed for gate in gates for deed in gate.deeds])))

    @property
    def deeds(self):
        """The deeds of all gates, ascending."""
        return self._deeds

    def owners(self, deed):
        """The names of the gates that have the deed."""
        return tuple([gate.name for gate in self.gates if deed in gate.deeds])

    def joined(self):
        """One gate that behaves like the whole hall."""
        return joined_gate(self.gates, self.deeds)

    def view(self, row, name):
        """The entries of the row whose deed the gate with this name has."""
        for gate in self.gates:
            if gate.name == name:
                return view_of(gate, row)
        raise UnknownName(name)

    def lets(self, row):
        """Does the hall let the row?"""
        check_row(row)
        if not all(deed in self.deeds for _, deed in row):
            return False
        return all(lets_view(gate, row) for gate in self.gates)


def wrong_gate(gates):
    """The index of the first gate that breaks a rule together with the gates before it, or None."""
    if gates == ():
        return 0
    clocks, states = 0, 1
    for index, gate in enumerate(gates):
        clocks = clocks + len(gate.clocks)
        states = states * len(gate.states)
        if index >= MOST_GATES or clocks > MOST_CLOCKS or states > MOST_STATES:
            return index
        if index > 0 and not (has_simple_names(gate) and is_new_name(gate.name, gates[:index])):
            return index
    return None


def has_simple_names(gate):
    """Are the names of the gate, of its clocks and of its states simple?"""
    return all(is_simple(name) for name in (gate.name, *gate.clocks, *[state for state, _ in gate.states]))


def is_new_name(name, gates):
    """Has none of the gates this name?"""
    return all(gate.name != name for gate in gates)


def view_of(gate, row):
    """The entries of the row whose deed the gate has."""
    return tuple([entry for entry in row if entry[1] in gate.deeds])


def lets_view(gate, row):
    """Does the gate let its view of the row, and can it then rest until the last moment of the row?"""
    view = view_of(gate, row)
    _, reached = fans_of(gate, view)
    rest = since(last_moment(view), last_moment(row))
    return any(after_rest(gate, standing, rest) is not None for standing in reached)


def last_moment(row):
    """The moment of the last entry, or zero without entries."""
    return row[-1][0] if row else (0, 1)


def combinations_of(choices):
    """All tuples of one item of each choice; the item of the first choice changes slowest."""
    found = [()]
    for choice in choices:
        found = [(*items, item) for items in found for item in choice]
    return found


def joined_gate(gates, deeds):
    """The gate that behaves like these gates side by side."""
    steps = [joined_step(gates, states, deed, combination) for states, deed, combination in joint_steps(gates, deeds)]
    clocks = [joined_name(gate.name, clock) for gate in gates for clock in gate.clocks]
    states = [(dotted([state for state, _ in pairs]), joined_stay(gates, pairs))
              for pairs in combinations_of([gate.states for gate in gates])]
    return Gate(dotted([gate.name for gate in gates]), tuple(clocks), tuple(states), tuple(steps), deeds)


def joint_steps(gates, deeds):
    """The steps of the joined gate: the source states, the deed, and for each gate the index of its step or None."""
    choices = []
    for states in combinations_of([[state for state, _ in gate.states] for gate in gates]):
        for deed in deeds:
            choices.append((states, deed, [steps_of(gate, state, deed) for gate, state in zip(gates, states)]))
    # The steps are counted before they are made: there may be too many to make.
    size = sum([count_combinations(choice) for _, _, choice in choices])
    if size > MOST_STEPS:
        raise TooMany(size)
    return [(states, deed, combination) for states, deed, choice in choices for combination in combinations_of(choice)]


def steps_of(gate, state, deed):
    """The steps that the gate can choose from at the deed; just None if it does not have the deed."""
    if deed not in gate.deeds:
        return [None]
    return [step for step in gate.steps_from(state) if gate.steps[step][1] == deed]


def count_combinations(choices):
    """The number of tuples of one item of each choice."""
    size = 1
    for choice in choices:
        size = size * len(choice)
    return size


def joined_step(gates, states, deed, combination):
    """The step of the joined gate that is made of these steps of its gates."""
    test = []
    restarts = []
    targets = []
    for gate, state, step in zip(gates, states, combination):
        if step is None:
            targets.append(state)
        else:
            _, _, own, zeroed, target = gate.steps[step]
            test.extend([(joined_name(gate.name, clock), span) for clock, span in own])
            restarts.extend([joined_name(gate.name, clock) for clock in zeroed])
            targets.append(target)
    return dotted(states), deed, tuple(test), tuple(restarts), dotted(targets)


def joined_stay(gates, pairs):
    """The stay of the joined state that is made of these pairs of a state and its stay."""
    return tuple([(joined_name(gate.name, clock), edge)
                  for gate, (_, stay) in zip(gates, pairs) for clock, edge in stay])


def joined_name(name, clock):
    """The name of a gate's clock in the joined gate."""
    return f"{name}.{clock}"


def dotted(names):
    """The names joined by dots."""
    return ".".join(names)
