"""Gates: states, clocks and the steps between the states."""

from bellrest.errors import InvalidGate, UnknownName
from bellrest.gateforms import first_fault
from bellrest.gatetext import parts_of_text, text_of_parts
from bellrest.spans import span_meet


class Gate:
    """A card with a few named states, a few clocks and steps between the states."""

    def __init__(self, name, clocks, states, steps, also=()):
        fault = first_fault(name, clocks, states, steps, also)
        if fault is not None:
            part, index = fault
            raise InvalidGate(part, index)
        self.name = name
        self.clocks = clocks
        self.states = states
        self.steps = steps
        self.also = also
        self._deeds = deeds_of(steps, also)
        self._ceilings = tuple([ceiling_of(clock, states, steps) for clock in clocks])
        self._numbers = {clock: index + 1 for index, clock in enumerate(clocks)}
        self._places = {state: index for index, (state, _) in enumerate(states)}
        self._steps_from = {state: steps_with_source(state, steps) for state, _ in states}

    @staticmethod
    def read(text):
        """The gate with this text."""
        parts = parts_of_text(text)
        return Gate(*parts)

    @property
    def deeds(self):
        """The names of the deeds, ascending."""
        return self._deeds

    @property
    def ceilings(self):
        """The greatest limit for each clock."""
        return self._ceilings

    def clock_number(self, clock):
        """The number of the clock."""
        if clock not in self._numbers:
            raise UnknownName(clock)
        return self._numbers[clock]

    def state_index(self, state):
        """The index of the state."""
        if state not in self._places:
            raise UnknownName(state)
        return self._places[state]

    def stay_of(self, state):
        """The stay of the state."""
        _, stay = self.states[self.state_index(state)]
        return stay

    def steps_from(self, state):
        """The ascending indices of the steps with this source."""
        if state not in self._steps_from:
            raise UnknownName(state)
        return self._steps_from[state]

    def overlap(self):
        """The least pair of indices of steps that overlap, or None."""
        for i, one in enumerate(self.steps):
            for j in self.steps_from(one[0]):
                if j > i and are_overlapping(one, self.steps[j]):
                    return i, j
        return None

    def is_settled(self):
        """Do no two steps overlap?"""
        return self.overlap() is None

    def text(self):
        """The text of the gate."""
        return text_of_parts(self.name, self.clocks, self.states, self.steps, self.also)


def deeds_of(steps, also):
    """The deeds of the steps and the further ones, ascending."""
    deeds = [deed for _, deed, _, _, _ in steps]
    deeds.extend(also)
    return tuple(sorted(set(deeds)))


def ceiling_of(clock, states, steps):
    """The greatest limit that stands with the clock in a stay or in a test."""
    edges = [edge for _, stay in states for name, edge in stay if name == clock]
    spans = [span for _, _, test, _, _ in steps for name, span in test if name == clock]
    edges.extend([edge for span in spans for edge in span if edge is not None])
    return max([limit for limit, _ in edges], default=0)


def steps_with_source(state, steps):
    """The ascending indices of the steps with this source."""
    return tuple([index for index, step in enumerate(steps) if step[0] == state])


def are_overlapping(one, other):
    """Have both steps the same source and deed, and do some readings meet both tests?"""
    if one[:2] != other[:2]:
        return False
    # Clocks are tested one by one, so each of them needs a reading for both tests.
    return all(span_meet(span, more) is not None
               for clock, span in one[2] for name, more in other[2] if clock == name)
