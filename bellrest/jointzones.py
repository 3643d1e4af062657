"""Rows of one gate beside another one: zones over the clocks of both gates.

The clocks of the second gate follow those of the first one. Both gates take steps with the same
deed at the same moment. The second gate is settled.
"""

from bellrest.moves import caps_inside, cut, restarted, risen, widened
from bellrest.pathtables import least_moments, path_conditions, span_conditions, stay_conditions, step_conditions
from bellrest.sights import span_after, span_before
from bellrest.tables import all_zero
from bellrest.zones import stay_test, step_test


def first_extra_row(one, other):
    """Some row with the fewest entries that one gate lets and the other does not let, or None."""
    for states, table, (path, more) in each_joint_zone(one, other):
        for step in one.steps_from(states[0]):
            test = unmatched_test(one, other, states, table, step)
            if test is not None:
                return row_of_paths(one, other, (*path, step), more, test)
    return None


def each_joint_zone(one, other):
    """All joint zones: triples of a pair of states, a table and a pair of paths, paths with fewer steps first.

    The table has the readings after all rests that the first gate lets, whether or not the second
    one lets them. As in each_zone, it may have more readings of the same kinds, and zones that lie
    in one that came before are left out.
    """
    zeros = all_zero(len(one.clocks) + len(other.clocks))
    states = (one.states[0][0], other.states[0][0])
    latest = [(states, rested_joint_zone(one, other, states[0], zeros), ((), ()))]
    known = {}
    while latest:
        fresh = []
        for pair, table, paths in latest:
            if not any(caps_inside(table, before) for before in known.get(pair, [])):
                known.setdefault(pair, []).append(table)
                fresh.append((pair, table, paths))
                yield pair, table, paths
        latest = [after for pair, table, paths in fresh for after in joint_zones_after(one, other, pair, table, paths)]


def rested_joint_zone(one, other, state, table):
    """The widened table of the readings after all rests that the first gate lets in the state."""
    stay = stay_test(one, state)
    return widened(cut(risen(table), *stay), one.ceilings + other.ceilings)


def joint_zones_after(one, other, states, table, paths):
    """The joint zones after one more step of both gates."""
    zones = []
    for step in one.steps_from(states[0]):
        for match in matches_of(one, other, states[1], step):
            test = step_test(one, step) + matched_test(one, other, match)
            met = cut(table, *test)
            if met is not None:
                readings = restarted(met, zeroed_by(one, step, 0) + zeroed_by(other, match, len(one.clocks)))
                targets = (one.steps[step][4], other.steps[match][4])
                longer = ((*paths[0], step), (*paths[1], match))
                zones.append((targets, rested_joint_zone(one, other, targets[0], readings), longer))
    return zones


def matches_of(one, other, state, step):
    """The steps from the state of the second gate that have the deed of this step of the first gate."""
    return [match for match in other.steps_from(state) if other.steps[match][1] == one.steps[step][1]]


def zeroed_by(gate, step, offset):
    """The numbers of the clocks that the step sets to zero, where those of the gate follow so many others."""
    return [gate.clock_number(clock) + offset for clock in gate.steps[step][3]]


def matched_test(one, other, match):
    """The test over the clocks of both gates with which the second gate lets the step, after the rest before it."""
    test = stay_test(other, other.steps[match][0]) + step_test(other, match)
    return [(number + len(one.clocks), span) for number, span in test]


def unmatched_test(one, other, states, table, step):
    """A test that some readings meet at which the first gate lets the step and the second one no match, or None.

    The test is over the clocks of both gates. No readings that meet it let a match.
    """
    allowed = step_test(one, step)
    readings = cut(table, *allowed)
    tests = [[]] if readings is not None else []
    for match in matches_of(one, other, states[1], step):
        box = matched_test(one, other, match)
        longer = [[*test, outside] for test in tests for outside in tests_outside(box)]
        tests = [test for test in longer if cut(readings, *test) is not None]
    return tests[0] if tests else None


def tests_outside(box):
    """Single tests of which readings meet at least one if and only if they do not meet the whole box."""
    found = []
    for number, span in box:
        for rest in (span_before(span), span_after(span)):
            if rest is not None:
                found.append((number, rest))
    return found


def row_of_paths(one, other, path, more, test):
    """A row that the first gate lets with the path and the second one up to its last entry, where the test holds."""
    last = len(path)
    conditions, state, zeros = step_conditions(other, more)
    if more:
        conditions.extend(stay_conditions(other, state, zeros, last - 1))
    conditions.extend(path_conditions(one, path, ()))
    for number, span in test:
        clock = other.clocks[number - len(one.clocks) - 1]
        conditions.extend(span_conditions(zeros[clock], last, span))
    moments = least_moments(last + 1, conditions)
    return tuple([(moment, one.steps[step][1]) for moment, step in zip(moments, path)])
