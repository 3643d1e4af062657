"""The runs of a gate that meet some facts, entry by entry.

A prefix is a tuple of a path, the state after it, the number of the last restart of each clock,
and the shut table of the moments of the entries; the beginning has the number 0.
"""

from bellrest.moves import caps_inside
from bellrest.pathtables import span_conditions, stay_conditions
from bellrest.shutting import tightest
from bellrest.tables import with_cap


def first_prefixes(gate, facts):
    """The prefix without entries, if it meets the facts."""
    state, _ = gate.states[0]
    zeros = {clock: 0 for clock in gate.clocks}
    return [((), state, zeros, (((0, 1),),))] if meets_state_facts(facts, 0, state) else []


def meets_state_facts(facts, count, state):
    """Is the state one of those that the facts name for so many entries?"""
    return all(state in fact[2] for fact in facts if fact[0] == "state" and fact[1] == count)


def meets_deed_facts(facts, index, deed):
    """Is the deed one of those that the facts name for the entry?"""
    return all(deed in fact[2] for fact in facts if fact[0] == "deed" and fact[1] == index)


def fact_conditions(facts, zeros, index):
    """Conditions for the facts about the moment of the entry."""
    found = []
    for fact in facts:
        if fact[:2] == ("moment", index):
            found.extend(span_conditions(0, index + 1, fact[2]))
        elif fact[0] == "gap" and fact[2] == index:
            found.extend(span_conditions(fact[1] + 1, index + 1, fact[3]))
        elif fact[:2] == ("clock", index):
            found.extend(span_conditions(zeros[fact[2]], index + 1, fact[3]))
    return found


def prefixes_after(gate, facts, prefix):
    """The prefixes with one more entry that meet the facts, by ascending steps."""
    found = [longer_prefix(gate, facts, prefix, step) for step in gate.steps_from(prefix[1])]
    return [longer for longer in found if longer is not None]


def longer_prefix(gate, facts, prefix, step):
    """The prefix with one more entry, or None if no run has it and meets the facts."""
    path, state, zeros, table = prefix
    _, deed, test, restarts, target = gate.steps[step]
    number = len(path) + 1
    if not (meets_deed_facts(facts, len(path), deed) and meets_state_facts(facts, number, target)):
        return None
    restarted = {clock: number if clock in restarts else zero for clock, zero in zeros.items()}
    conditions = [(number - 1, number, (0, 1))]
    conditions.extend(stay_conditions(gate, state, zeros, number))
    conditions.extend(stay_conditions(gate, target, restarted, number))
    conditions.extend(fact_conditions(facts, zeros, len(path)))
    for clock, span in test:
        conditions.extend(span_conditions(zeros[clock], number, span))
    longer = with_conditions(tuple([row + (None,) for row in table]) + ((None,) * (number + 1),), conditions)
    return None if longer is None else ((*path, step), target, restarted, longer)


def with_conditions(table, conditions):
    """The shut table of the readings of the lot that meet the conditions, or None."""
    narrowed = table
    for i, j, cap in conditions:
        narrowed = with_cap(narrowed, i, j, cap)
    return tightest(narrowed)


def all_prefixes(gate, length, facts):
    """The prefixes with so many entries that meet the facts, by ascending paths."""
    level = first_prefixes(gate, facts)
    for _ in range(length):
        level = [longer for prefix in level for longer in prefixes_after(gate, facts, prefix)]
    return level


def longest_prefixes(gate, length, facts):
    """Some prefixes with as many entries as possible, up to the length; none if the start does not meet the facts."""
    level = first_prefixes(gate, facts)
    for number in range(1, length + 1):
        longer = [after for prefix in level for after in prefixes_after(gate, facts, prefix)]
        if not longer:
            return level
        level = largest_prefixes(facts, number, longer)
    return level


def largest_prefixes(facts, number, prefixes):
    """The prefixes without those whose runs go on only in ways in which the runs of another one go on."""
    kept = []
    known = {}
    for prefix in prefixes:
        _, state, zeros, table = prefix
        # Nothing else of the past matters for later entries.
        places = [0, number, *list(zeros.values()), *gap_starts(facts, number)]
        part = tuple([tuple([table[i][j] for j in places]) for i in places])
        if not any(caps_inside(part, other) for other in known.get(state, [])):
            known.setdefault(state, []).append(part)
            kept.append(prefix)
    return kept


def gap_starts(facts, number):
    """The numbers of the moments up to this one from which facts tell the rest to a later one."""
    return [fact[1] + 1 for fact in facts if fact[0] == "gap" and fact[1] < number <= fact[2]]


def some_prefix(gate, length, facts):
    """Some prefix with so many entries that meets the facts, or None."""
    level = longest_prefixes(gate, length, facts)
    return level[0] if level and len(level[0][0]) == length else None


def prefix_of_path(gate, facts, path):
    """The prefix with this path, or None if no run with it meets the facts."""
    found = first_prefixes(gate, facts)
    for step in path:
        steps = [prefix for prefix in found if gate.steps[step][0] == prefix[1]]
        found = [longer_prefix(gate, facts, prefix, step) for prefix in steps]
        found = [prefix for prefix in found if prefix is not None]
    return found[0] if found else None


def end_table(prefix):
    """The shut table of the runs of the prefix, whose last clock reads the last moment."""
    path, _, _, table = prefix
    places = [*list(range(len(path) + 1)), len(path)]
    return tuple([tuple([table[i][j] for j in places]) for i in places])
