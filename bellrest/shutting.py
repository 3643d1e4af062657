"""Shut tables, and the rings and ways that explain them."""

from bellrest.errors import EmptyLot, InvalidTable
from bellrest.forms import is_whole
from bellrest.tables import add_caps, is_table, tighter_of

# The cap between a clock and itself: it allows the difference zero and nothing above.
SAME = (0, 1)


def effective_caps(table):
    """The caps of the table as they act: no reading is negative, and a clock equals itself."""
    return [effective_row(table, i) for i in range(len(table))]


def effective_row(table, i):
    """The effective caps of one row of the table."""
    return [tighter_of(cap, SAME) if i in (0, j) else cap for j, cap in enumerate(table[i])]


def as_number(cap):
    """The cap as one integer, or None: a tighter cap has a smaller number."""
    return None if cap is None else 2 * cap[0] + cap[1]


def as_cap(number):
    """The cap that as_number made this number of."""
    return None if number is None else (number // 2, number % 2)


def tightened(row, first, through):
    """The row of cap numbers, where each sum of first and a number of the other row acts as well."""
    found = []
    for own, second in zip(row, through):
        if second is not None:
            # The sum of the limits; its last bit is 1 only if both last bits are 1.
            total = first + second - ((first | second) & 1)
            if own is None or total < own:
                own = total
        found.append(own)
    return found


def tightest(table):
    """The shut table of a valid table, or None if its lot is empty."""
    rows = [[as_number(cap) for cap in row] for row in effective_caps(table)]
    for k in range(len(table)):
        through = rows[k]
        rows = [row if row[k] is None else tightened(row, row[k], through) for row in rows]
        if any(rows[i][i] < as_number(SAME) for i in range(len(table))):
            return None
    return tuple([tuple([as_cap(number) for number in row]) for row in rows])


def shut(table):
    """The shut table of the lot, or None if the lot is empty."""
    if not is_table(table):
        raise InvalidTable(table)
    return tightest(table)


def is_shut(value):
    """Is the value a shut table?"""
    return is_table(value) and tightest(value) == value


def sum_along(table, numbers):
    """The sum of the effective caps over all neighbouring clock numbers."""
    caps = effective_caps(table)
    total = SAME
    for a, b in zip(numbers, numbers[1:]):
        total = add_caps(total, caps[a][b])
    return total


def are_numbers(table, value):
    """Is the value a tuple of clock numbers of the table?"""
    if not isinstance(value, tuple):
        return False
    return all(is_whole(number) and 0 <= number < len(table) for number in value)


def is_ring(table, value):
    """Is the value a ring of the table?"""
    if not are_numbers(table, value) or len(value) < 2 or value[0] != value[-1]:
        return False
    total = sum_along(table, value)
    return total is not None and total < SAME


def is_way(table, i, j, cap, value):
    """Is the value a way from i to j with the cap?"""
    if cap is None or not are_numbers(table, value) or value == ():
        return False
    return value[0] == i and value[-1] == j and sum_along(table, value) == cap


def ring(table):
    """Some ring of the table, or None if its lot is not empty."""
    caps = effective_caps(table)
    # Below the least number that closes a ring there is none. So a shortest ring through this
    # number repeats no other one: what lies between two equal numbers could be left out.
    for last in range(len(table)):
        found = shortest(caps, last, last, (0, 0), last)
        if found is not None:
            return found
    return None


def way(table, i, j):
    """Some way from i to j whose cap is the shut cap, or None if that cap is None."""
    held = tightest(table)
    if held is None:
        raise EmptyLot(len(table) - 1)
    if i == j:
        return (i,)
    if held[i][j] is None:
        return None
    # Where the lot is not empty, a shortest such way repeats no number: leaving out what lies
    # between two equal numbers never makes the sum greater.
    return shortest(effective_caps(table), i, j, held[i][j], len(table) - 1)


def shortest(caps, i, j, bound, last):
    """The shortest tuple of two or more numbers up to last, from i to j, with the sum bound or tighter."""
    ends = {i: (SAME, (i,))}
    for _ in range(last + 1):
        ends = one_longer(caps, ends, last)
        if j in ends and ends[j][0] <= bound:
            return ends[j][1]
    return None


def one_longer(caps, ends, last):
    """For each end the tightest sum with its tuple, after one more number up to last."""
    found = {}
    for a, (total, numbers) in ends.items():
        for b in range(last + 1):
            sum_there = add_caps(total, caps[a][b])
            if sum_there is not None and (b not in found or sum_there < found[b][0]):
                found[b] = (sum_there, (*numbers, b))
    return found
