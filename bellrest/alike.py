"""Gates that let the same rows, or the same bare rows."""

from bellrest.barerows import BareWalk
from bellrest.gates import Gate
from bellrest.jointzones import first_extra_row
from bellrest.within import check_settled


def alike(one, other):
    """Do the gates let the same rows?"""
    return parting_row(one, other) is None


def parting_row(one, other):
    """Some row with the fewest entries that exactly one of the gates lets, or None."""
    check_settled(one)
    check_settled(other)
    rows = [first_extra_row(one, other), first_extra_row(other, one)]
    return shortest_row(rows)


def shortest_row(rows):
    """The first one of the shortest rows; None stands for no row."""
    found = [row for row in rows if row is not None]
    return min(found, key=len) if found else None


def begun_at(gate, state):
    """The gate that begins in the state."""
    place = gate.state_index(state)
    states = (gate.states[place], *gate.states[:place], *gate.states[place + 1:])
    return Gate(gate.name, gate.clocks, states, gate.steps, gate.also)


def alike_states(gate):
    """The states in groups: from the states of one group on the same rows are let."""
    check_settled(gate)
    groups = []
    for state, _ in gate.states:
        begun = begun_at(gate, state)
        place = place_alike(gate, groups, begun)
        if place is None:
            groups.append([state])
        else:
            groups[place].append(state)
    return tuple([tuple(group) for group in groups])


def place_alike(gate, groups, begun):
    """The index of the group whose states are alike the first state of this gate, or None."""
    for place, group in enumerate(groups):
        if alike(begun_at(gate, group[0]), begun):
            return place
    return None


def bare_parting(one, other):
    """The least of the shortest bare rows that exactly one of the gates lets, or None."""
    first, second = BareWalk(one), BareWalk(other)
    deeds = sorted(set(one.deeds + other.deeds))
    latest = [((), (first.start(), second.start()))]
    known = set()
    while latest:
        longer = [((*row, deed), (first.after(place, deed), second.after(more, deed)))
                  for row, (place, more) in latest for deed in deeds]
        latest = []
        for row, places in longer:
            if () in places:
                if places != ((), ()):
                    return row
            elif places not in known:
                known.add(places)
                latest.append((row, places))
    return None
