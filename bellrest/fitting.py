"""Whether the runs of a gate fit a sight."""

from bellrest.halls import Hall, joint_steps
from bellrest.pathtables import run_of
from bellrest.watchers import label
from bellrest.zones import each_zone


def watched(gate, sight):
    """The joined gate of the gate and the watcher of the sight."""
    return hall_of(gate, sight).joined()


def hall_of(gate, sight):
    """The hall of the gate and the watcher of the sight over the deeds of the gate."""
    name = "sights" if gate.name == "sight" else "sight"
    return Hall(gate, sight.watcher(name, gate.deeds))


def is_counted(state, count):
    """Does the state of the watched gate say that so many entries of the sight were seen?"""
    return state.endswith("." + label(count))


def states_counted(joined, count):
    """The states of the watched gate that say that so many entries of the sight were seen."""
    return tuple([state for state, _ in joined.states if is_counted(state, count)])


def seen_zones(joined, sight):
    """The zones of the watched gate up to the last entry of the sight."""
    # A fitting run ends with the last entry of the sight. So no step goes on from there.
    ceilings = joined.ceilings
    ends = states_counted(joined, len(sight.entries))
    return list(each_zone(joined, ceilings, ends))


def could(gate, sight):
    """Some fitting run with the fewest entries, or None."""
    joined = watched(gate, sight)
    for state, _, path in seen_zones(joined, sight):
        if is_counted(state, len(sight.entries)):
            row, steps, _ = run_of(joined, path)
            return row, own_path(gate, sight, steps), (0, 1)
    return None


def own_path(gate, sight, path):
    """The steps of the gate in a path of the watched gate."""
    hall = hall_of(gate, sight)
    own = [combination[0] for _, _, combination in joint_steps(hall.gates, hall.deeds)]
    return tuple([own[step] for step in path])


def first_wrong(gate, sight):
    """The index of the first entry up to which no run fits, or None if there is a fitting run."""
    joined = watched(gate, sight)
    zones = seen_zones(joined, sight)
    for count in range(1, len(sight.entries) + 1):
        if not any(is_counted(state, count) for state, _, _ in zones):
            return count - 1
    return None


def wrong_patches(gate, sight):
    """Some closed tuple of patches that shows that no run fits up to the first wrong entry, or None."""
    index = first_wrong(gate, sight)
    if index is None:
        return None
    joined = watched(gate, sight.cut(index + 1))
    ceilings = joined.ceilings
    return tuple([(state, table) for state, table, _ in each_zone(joined, ceilings)])


def states_after(gate, sight):
    """The states in which fitting runs end."""
    joined = watched(gate, sight)
    met = [state for state, _, _ in seen_zones(joined, sight)]
    last = label(len(sight.entries))
    return tuple([state for state, _ in gate.states if f"{state}.{last}" in met])
