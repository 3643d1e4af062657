"""Tables of caps on the differences of readings."""

from bellrest.errors import InvalidTable, Unlike
from bellrest.forms import is_tuple_of, is_whole
from bellrest.moments import is_moment
from bellrest.spans import add_edges, is_edge


def is_cap(value):
    """Is the value a cap?"""
    return value is None or is_edge(value)


def is_table(value):
    """Is the value a table?"""
    if not (isinstance(value, tuple) and len(value) >= 2):
        return False
    return all(is_table_row(len(value), row) for row in value)


def is_table_row(size, value):
    """Is the value a tuple of so many caps?"""
    return is_tuple_of(size, value) and all(is_cap(cap) for cap in value)


def is_readings(clocks, value):
    """Is the value a tuple of readings over so many clocks?"""
    return is_tuple_of(clocks, value) and all(is_moment(reading) for reading in value)


def add_caps(first, second):
    """The sum of two caps."""
    if first is None or second is None:
        return None
    return add_edges(first, second)


def tighter_of(first, second):
    """The tighter one of two caps."""
    if first is None:
        return second
    return first if second is None or first < second else second


def least_cap(*caps):
    """The tightest cap, or None without caps."""
    least = None
    for cap in caps:
        least = tighter_of(least, cap)
    return least


def cap_allows(cap, first, second):
    """Does the cap allow the first moment minus the second one?"""
    if cap is None:
        return True
    limit, reach = cap
    # Both sides are multiplied by both denominators, so that no fraction is left.
    excess = first[0] * second[1] - second[0] * first[1] - limit * first[1] * second[1]
    return excess < 0 or (excess == 0 and reach == 1)


def keeps(table, readings):
    """Do the readings lie in the lot of the table?"""
    clocks = len(table) - 1
    if len(readings) != clocks:
        raise Unlike(clocks, len(readings))
    values = ((0, 1), *readings)
    for first, row in zip(values, table):
        for second, cap in zip(values, row):
            if not cap_allows(cap, first, second):
                return False
    return True


def anything(clocks):
    """The shut table of all readings."""
    numbers = range(clocks + 1)
    return tuple([tuple([(0, 1) if i in (0, j) else None for j in numbers]) for i in numbers])


def all_zero(clocks):
    """The shut table of the readings that are all zero."""
    return (((0, 1),) * (clocks + 1),) * (clocks + 1)


def is_condition(clocks, value):
    """Is the value a triple of two clock numbers and a cap?"""
    if not is_tuple_of(3, value):
        return False
    i, j, cap = value
    if not (is_whole(i) and is_whole(j) and is_cap(cap)):
        return False
    return 0 <= i <= clocks and 0 <= j <= clocks


def table_with(clocks, *conditions):
    """The table whose caps are the tightest ones of the conditions; it is not shut."""
    rows = [[None] * (clocks + 1) for _ in range(clocks + 1)]
    for condition in conditions:
        if not is_condition(clocks, condition):
            raise InvalidTable(condition)
        i, j, cap = condition
        rows[i][j] = tighter_of(rows[i][j], cap)
    return tuple([tuple(row) for row in rows])


def with_cap(table, i, j, cap):
    """The table in which the cap [i][j] is the tighter one of itself and this cap."""
    row = table[i]
    changed = row[:j] + (tighter_of(row[j], cap),) + row[j + 1:]
    return table[:i] + (changed,) + table[i + 1:]
