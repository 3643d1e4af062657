"""Slack: other rests that could stand before an entry."""

from bellrest.errors import InvalidRow
from bellrest.moments import added, compared, since
from bellrest.pathtables import path_conditions, path_table
from bellrest.running import check_row, standing_after


def slack(gate, row, path, place):
    """The pair of limits of the rests that could stand before the entry if all later ones keep their distances."""
    check_row(row)
    standing_after(gate, (row, path, (0, 1)))
    if not 0 <= place < len(row):
        raise InvalidRow(place)
    moments = [(0, 1), *[moment for moment, _ in row], row[-1][0]]
    rest = since(moments[place], moments[place + 1])
    low, high = ((0, 1), 1), None
    for i, j, cap in path_conditions(gate, path, ()):
        # The moments with the numbers up to place stay; the other ones move together.
        if cap is not None and i > place >= j:
            high = lower_limit(high, longest_rest(since(moments[j], moments[i]), rest, cap))
        elif j > place >= i:
            low = higher_limit(low, shortest_rest(since(moments[i], moments[j]), rest, cap))
    return low, high


def longest_rest(gap, rest, cap):
    """The limit of the rest that the cap on the gap allows, of which the rest is a part."""
    limit, reach = cap
    return added(rest, since(gap, (limit, 1))), reach


def shortest_rest(gap, rest, cap):
    """The limit from which on the rest may be if the cap bounds the opposite of the gap; None if it may be zero."""
    limit, reach = cap
    room = since((-limit, 1), gap)
    return None if compared(room, rest) > 0 else (since(room, rest), reach)


def lower_limit(one, other):
    """The upper limit that allows less; the first one may be None."""
    if one is None:
        return other
    place = compared(one[0], other[0])
    return other if place > 0 or (place == 0 and other[1] == 0) else one


def higher_limit(one, other):
    """The lower limit that allows less; the second one may be None."""
    if other is None:
        return one
    place = compared(one[0], other[0])
    return other if place < 0 or (place == 0 and other[1] == 0) else one


def rest_spans(gate, path):
    """For each entry the smallest span of the rests before it in all let runs with the path, or None."""
    table = path_table(gate, path)
    if table is None:
        return None
    return tuple([span_of_gap(table, number - 1, number) for number in range(1, len(path) + 1)])


def span_of_gap(table, first, second):
    """The span of the rests from the first moment to the second one, given by their numbers in a shut table."""
    limit, reach = table[first][second]
    return (-limit, reach), table[second][first]
