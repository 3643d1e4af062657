"""The tables of kinds, and the kinds of the readings of a table."""

from itertools import combinations
from math import comb

from bellrest.moves import shut_or_none
from bellrest.shutting import tightest
from bellrest.tables import table_with, with_cap


def kind_table(kind, ceilings):
    """The shut table of all readings of the kind."""
    conditions = [condition for clock in range(1, len(ceilings) + 1)
                  for condition in clock_conditions(kind, ceilings, clock)]
    return tightest(table_with(len(ceilings), *conditions))


def clock_conditions(kind, ceilings, clock):
    """Conditions that place the clock among the whole hours and the clocks of the groups beside its own."""
    wholes, order = kind
    whole = wholes[clock - 1]
    own = [number for number, group in enumerate(order) if clock in group]
    if own == []:
        return [(0, clock, (-ceilings[clock - 1], 0))]
    if own == [0]:
        return [(clock, 0, (whole, 1)), (0, clock, (-whole, 1))]
    conditions = [(clock, 0, (whole + 1, 0)), (0, clock, (-whole, 0))]
    for number in range(own[0] - 1, own[0] + 2):
        for other in order[number] if number < len(order) else ():
            gap = whole - wholes[other - 1]
            if number <= own[0]:
                conditions.append((other, clock, (-gap, 1 if number == own[0] else 0)))
            if number >= own[0]:
                conditions.append((clock, other, (gap, 1 if number == own[0] else 0)))
    return conditions


def kinds_of(table, ceilings):
    """All kinds of readings of the lot, ascending."""
    held = shut_or_none(table)
    # Kinds over the first clocks, each with the table of the readings of the lot that have it.
    found = [] if held is None else [(((), ((),)), held)]
    for clock in range(1, len(ceilings) + 1):
        found = [pair for kind, lot in found for pair in longer_kinds(kind, lot, ceilings, clock)]
    return tuple(sorted([kind for kind, _ in found]))


def longer_kinds(kind, lot, ceilings, clock):
    """The kinds over one more clock that readings of the lot have, each with the table of these readings."""
    pairs = []
    for longer in kinds_with(kind, ceilings[clock - 1], lot[0][clock], lot[clock][0]):
        narrowed = lot
        for i, j, cap in clock_conditions(longer, ceilings, clock):
            narrowed = with_cap(narrowed, i, j, cap)
        narrowed = tightest(narrowed)
        if narrowed is not None:
            pairs.append((longer, narrowed))
    return pairs


def kinds_with(kind, ceiling, low, high):
    """The kinds that are made of the kind and one more clock, which reads from -low to high."""
    wholes, order = kind
    clock = len(wholes) + 1
    last = ceiling if high is None else min(ceiling, high[0])
    found = [((*wholes, ceiling + 1), order)]
    for whole in range(-low[0], last + 1):
        more = (*wholes, whole)
        for number, group in enumerate(order if whole < ceiling else order[:1]):
            found.append((more, (*order[:number], (*group, clock), *order[number + 1:])))
            if whole < ceiling:
                found.append((more, (*order[:number + 1], (clock,), *order[number + 1:])))
    return found


def each_kind(ceilings):
    """All kinds, ascending."""
    wholes = (0,) * len(ceilings)
    while wholes is not None:
        for order in orders_of(wholes, ceilings):
            yield wholes, order
        wholes = wholes_after(wholes, ceilings)


def wholes_after(wholes, ceilings):
    """The next whole numbers in ascending order, or None after the last ones."""
    for clock in range(len(wholes), 0, -1):
        if wholes[clock - 1] <= ceilings[clock - 1]:
            return wholes[:clock - 1] + (wholes[clock - 1] + 1,) + (0,) * (len(wholes) - clock)
    return None


def orders_of(wholes, ceilings):
    """The orders that stand beside these whole numbers in kinds, ascending."""
    limits = list(enumerate(zip(wholes, ceilings), start=1))
    at_top = [clock for clock, (whole, ceiling) in limits if whole == ceiling]
    below = tuple([clock for clock, (whole, ceiling) in limits if whole < ceiling])
    partial = [((tuple(sorted([*group, *at_top])),), rest) for group, rest in choices_of(below, 0)]
    found = []
    # What is left is made into groups, smaller parts first.
    while partial:
        found.extend([groups for groups, left in partial if not left])
        partial = [((*groups, group), rest) for groups, left in partial if left for group, rest in choices_of(left, 1)]
    return sorted(found)


def choices_of(clocks, least):
    """All choices of at least so many of the clocks, each with the clocks that are left."""
    choices = []
    for many in range(least, len(clocks) + 1):
        for group in combinations(clocks, many):
            choices.append((group, tuple([clock for clock in clocks if clock not in group])))
    return choices


def count_kinds(ceilings):
    """How many kinds there are."""
    # At index k: the ways to give whole numbers to the clocks, k of them below their ceilings.
    # A clock that is not below its ceiling reads just the ceiling, or is beyond.
    ways = [1]
    for ceiling in ceilings:
        ways = [2 * same + ceiling * fewer for same, fewer in zip([*ways, 0], [0, *ways])]
    return sum(way * count_orders(below) for below, way in enumerate(ways))


def count_orders(clocks):
    """In how many ways so many clocks are put into groups, of which the first one may be empty."""
    orders = [1]
    for many in range(1, clocks + 1):
        orders.append(sum([comb(many, group) * orders[many - group] for group in range(1, many + 1)]))
    # Without clocks there is only the empty first group. Else the first of the groups that
    # are not empty either is the first group or follows an empty one.
    return 1 if clocks == 0 else 2 * orders[clocks]
