"""Moves of lots: what rests, restarts and tests make of the readings of a lot.

A lot is given as a table, or as None if it is empty; the results are shut tables or None.
"""

from bellrest.errors import Unlike
from bellrest.shutting import tightest
from bellrest.tables import tighter_of, with_cap


def later(table):
    """All readings that result when all clocks of some readings advance by the same rest."""
    held = shut_or_none(table)
    return None if held is None else risen(held)


def risen(held):
    """The shut table of all readings that result from rests, from a shut table."""
    # Without the caps on the readings themselves the other caps stay as tight as they are.
    return held[:1] + tuple([(None,) + row[1:] for row in held[1:]])


def earlier(table):
    """All readings from which some readings result when all clocks advance by the same rest."""
    held = shut_or_none(table)
    if held is None:
        return None
    return tightest((((0, 1),) * len(held),) + held[1:])


def restart(table, clocks):
    """The readings with the clocks of these numbers set to zero."""
    held = shut_or_none(table)
    return None if held is None else restarted(held, clocks)


def restarted(held, clocks):
    """The shut table of the readings with the clocks set to zero, from a shut table."""
    # A clock that reads zero has the caps of the zero clock.
    places = [0 if k in clocks else k for k in range(len(held))]
    return tuple([tuple([held[i][j] for j in places]) for i in places])


def release(table, clocks):
    """All readings that agree with some readings at all clocks but those of these numbers."""
    held = shut_or_none(table)
    if held is None:
        return None
    numbers = range(len(held))
    return tuple([tuple([released_cap(held, clocks, i, j) for j in numbers]) for i in numbers])


def released_cap(held, clocks, i, j):
    """The cap [i][j] of a shut table after these clocks may read anything."""
    if i == j:
        return held[i][j]
    if i in clocks:
        return None
    # The difference to a clock that may read anything is greatest where that clock reads zero.
    return held[i][0] if j in clocks else held[i][j]


def cut(table, *tests):
    """The readings that meet every test, a pair of a clock number and a span."""
    if table is None:
        return None
    narrowed = table
    for clock, (low, high) in tests:
        narrowed = with_cap(narrowed, 0, clock, (-low[0], low[1]))
        narrowed = with_cap(narrowed, clock, 0, high)
    return tightest(narrowed)


def meet(first, *more):
    """The readings that lie in the lots of all the tables."""
    lots = [first, *more]
    tables = [table for table in lots if table is not None]
    for table in tables:
        if len(table) != len(tables[0]):
            raise Unlike(len(tables[0]) - 1, len(table) - 1)
    if len(tables) < len(lots):
        return None
    common = first
    for table in more:
        common = tighter_caps(common, table)
    return tightest(common)


def tighter_caps(one, other):
    """The table that has the tighter one of both caps at each place."""
    return tuple([tuple([tighter_of(cap, more) for cap, more in zip(row, below)]) for row, below in zip(one, other)])


def inside(one, other):
    """Does the lot of the second table contain the lot of the first one?"""
    held = shut_or_none(one)
    if held is None:
        return True
    return other is not None and caps_inside(held, other)


def caps_inside(held, other):
    """Does the lot of the other table contain the lot of this shut table?"""
    return all(tighter_of(cap, more) == cap for row, below in zip(held, other) for cap, more in zip(row, below))


def widen(table, ceilings):
    """The lot without the limits beyond the ceilings."""
    held = shut_or_none(table)
    return None if held is None else widened(held, ceilings)


def widened(held, ceilings):
    """The shut table of the lot without the limits beyond the ceilings, from a shut table."""
    tops = (0, *ceilings)
    numbers = range(len(held))
    wider = tuple([tuple([widened_cap(held, tops, i, j) for j in numbers]) for i in numbers])
    return held if wider == held else tightest(wider)


def widened_cap(held, tops, i, j):
    """The cap [i][j] of a shut table after widening, where each clock number has its top."""
    cap = held[i][j]
    if cap is None or i == j:
        return cap
    if i >= 1 and cap[0] > tops[i]:
        return None
    if j >= 1 and cap[0] < -tops[j]:
        return -tops[j], 0
    return cap


def shut_or_none(table):
    """The shut table of the lot, or None if it is empty."""
    return None if table is None else tightest(table)
