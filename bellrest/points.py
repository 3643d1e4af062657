"""Some readings of a lot."""

from bellrest.errors import EmptyLot
from bellrest.moments import moment
from bellrest.shutting import tightest
from bellrest.tables import with_cap


def point(table):
    """Some readings of the lot."""
    return point_in_parts(table, 1)


def near(table, i, j, within):
    """Some readings of the lot that show that the shut cap [i][j] cannot be tighter."""
    held = tightest(table)
    if held is None:
        raise EmptyLot(len(table) - 1)
    # Limits count parts of the denominator from here on, so that the new limit is an integer.
    numerator, parts = within
    finer = in_parts(held, parts)
    return point_in_parts(with_cap(finer, j, i, opposite_cap(finer[i][j], numerator)), parts)


def opposite_cap(cap, within):
    """The cap on the opposite difference that brings the difference so near to what the cap allows."""
    if cap is None:
        return -within, 1
    limit, reach = cap
    return (-limit, 1) if reach == 1 else (within - limit, 0)


def in_parts(table, parts):
    """The table with every limit multiplied by the number of parts."""
    return tuple([tuple([None if cap is None else (cap[0] * parts, cap[1]) for cap in row]) for row in table])


def point_in_parts(table, parts):
    """Some readings of the lot of a table whose limits count parts of an hour."""
    held = tightest(table)
    if held is None:
        raise EmptyLot(len(table) - 1)
    # Where a limit is only neared, one grain is kept from it. A sum of caps around different
    # clocks has at most as many such limits as the table has rows. So with this many grains
    # to a part no such sum falls below zero, and some readings are left.
    grains = len(table)
    return tuple([moment(value, grains * parts) for value in least_values(held, grains)[1:]])


def least_values(table, grains):
    """The least readings, counted in grains, that keep one grain from limits that are only neared."""
    values = [0] * len(table)
    for _ in table:
        values = [least_value(table, grains, values, j) for j in range(len(table))]
    return values


def least_value(table, grains, values, j):
    """The least reading of clock j that the values of the other clocks and the caps allow."""
    lows = [0]
    for value, row in zip(values, table):
        if row[j] is not None:
            limit, reach = row[j]
            lows.append(value - limit * grains + 1 - reach)
    return max(lows)
