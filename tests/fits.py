"""Fitting runs by trying: what points 70 to 73 say, path by path."""

import itertools

from bellrest.pathtables import path_conditions
from bellrest.shutting import shut
from bellrest.sights import BareSight, RoundedSight, Sight, WindowSight
from bellrest.tables import table_with
from helpers import random_span

EVER = ((0, 1), None)


def span_caps(number, span):
    low, high = span
    return [(number, 0, high), (0, number, (-low[0], low[1]))]


def sides_of(window):
    """The parts of time: a span and whether it is seen; those before and after the window without limits above 9."""
    if window is None:
        return [(EVER, True)]
    (low, reach), high = window
    sides = [(window, True)]
    if (low, 1 - reach) > (0, 0):
        sides.append((((0, 1), (low, 1 - reach)), False))
    if high is not None:
        sides.append((((high[0], 1 - high[1]), None), False))
    return sides


def fitting_tables(gate, sight, most):
    """All paths with at most so many steps of fitting runs, by trying for each entry where it lies.

    Yields triples of the path, the numbers of the entries that are seen, and the table of these runs.
    """
    window = getattr(sight, "window", None)
    for path in all_paths(gate, most):
        deeds = [gate.steps[step][1] for step in path]
        places = [[(EVER, None)] if deed in sight.hidden else sides_of(window) for deed in deeds]
        for choice in itertools.product(*places):
            seen = [(number, side) for number, (side, shown) in enumerate(choice, 1) if shown]
            table = table_of_choice(gate, sight, path, choice, seen)
            if table is not None:
                yield path, [number for number, _ in seen], table


def fitting_paths(gate, sight, most):
    """All paths with at most so many steps of fitting runs."""
    found = []
    for path, _, _ in fitting_tables(gate, sight, most):
        if path not in found:
            found.append(path)
    return found


def table_of_choice(gate, sight, path, choice, seen):
    if len(seen) != len(sight.entries) or (path and (not seen or seen[-1][0] != len(path))):
        return None
    conditions = path_conditions(gate, path, ())
    for number, (side, _) in enumerate(choice, 1):
        conditions.extend(span_caps(number, side))
    for (number, _), (test, deed) in zip(seen, sight.entries):
        if gate.steps[path[number - 1]][1] != deed:
            return None
        conditions.extend(span_caps(number, test))
    return shut(table_with(len(path) + 1, *conditions))


def all_paths(gate, most):
    paths = [()]
    for _ in range(most + 1):
        yield from paths
        paths = [(*path, step) for path in paths for step, parts in enumerate(gate.steps)
                 if parts[0] == (gate.steps[path[-1]][4] if path else gate.states[0][0])]


def random_sights(chance, count):
    for _ in range(count):
        hidden = chance.choice(((), ("bell",), ("push",), ("hum",), ()))
        seen = [deed for deed in ("push", "bell") if deed not in hidden]
        deeds = [chance.choice(seen) for _ in range(chance.randint(0, 3))]
        kind = chance.randint(0, 3)
        if kind == 0:
            yield BareSight(tuple(deeds), hidden)
        elif kind == 1:
            hours = sorted(chance.randint(0, 3) for _ in deeds)
            yield RoundedSight(tuple(zip(hours, deeds)), hidden, rounding=chance.choice(("down", "up")))
        else:
            entries = tuple((random_span(chance, 3), deed) for deed in deeds)
            if kind == 2:
                yield Sight(entries, hidden)
            else:
                yield WindowSight(random_span(chance, 2), tuple((EVER, deed) for deed in deeds), hidden)
