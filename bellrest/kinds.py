"""Kinds of readings: finitely many, and rests, tests and restarts lead from kinds to kinds."""

from math import lcm

from bellrest.errors import BeyondCeiling, InvalidKind, UnlikeKinds
from bellrest.forms import is_tuple_of, is_whole
from bellrest.moments import added, compared, halfway, in_lowest_terms, since


def kind_of(readings, ceilings):
    """The kind of the readings."""
    # Parts of an hour count grains, so that they compare as integers.
    grains = 1
    for _, denominator in readings:
        grains = lcm(grains, denominator)
    wholes = []
    groups = {0: []}
    for clock, ((numerator, denominator), ceiling) in enumerate(zip(readings, ceilings), start=1):
        whole, part = divmod(numerator * (grains // denominator), grains)
        if (whole, part) > (ceiling, 0):
            wholes.append(ceiling + 1)
        else:
            wholes.append(whole)
            groups.setdefault(part, []).append(clock)
    return tuple(wholes), tuple([tuple(groups[part]) for part in sorted(groups)])


def is_kind(ceilings, value):
    """Is the value the kind of some readings?"""
    if not is_tuple_of(2, value):
        return False
    wholes, order = value
    if not (are_wholes(ceilings, wholes) and is_order(order)):
        return False
    limits = list(enumerate(zip(wholes, ceilings), start=1))
    grouped = sorted([clock for group in order for clock in group])
    if grouped != [clock for clock, (whole, ceiling) in limits if whole <= ceiling]:
        return False
    # A clock that reads more than its ceiling is beyond; so one at its ceiling reads whole hours.
    return all(clock in order[0] for clock, (whole, ceiling) in limits if whole == ceiling)


def are_wholes(ceilings, value):
    """Is the value a tuple of an integer for each clock, at most one above its ceiling?"""
    if not is_tuple_of(len(ceilings), value):
        return False
    return all(is_whole(whole) and 0 <= whole <= ceiling + 1 for whole, ceiling in zip(value, ceilings))


def is_order(value):
    """Is the value a tuple of groups, of which only the first one may be empty?"""
    if not isinstance(value, tuple) or value == ():
        return False
    return all(is_group(group) for group in value) and () not in value[1:]


def is_group(value):
    """Is the value a tuple of ascending integers?"""
    if not (isinstance(value, tuple) and all(is_whole(clock) for clock in value)):
        return False
    return all(one < other for one, other in zip(value, value[1:]))


def check_kind(kind, ceilings):
    """Raise InvalidKind if this is not a kind."""
    if not is_kind(ceilings, kind):
        raise InvalidKind(kind)


def sample(kind, ceilings):
    """Some readings of the kind."""
    check_kind(kind, ceilings)
    wholes, order = kind
    # The groups share out the hour evenly. A clock that is beyond is in no group.
    parts = {clock: part for part, group in enumerate(order) for clock in group}
    many = len(order)
    return tuple([in_lowest_terms(whole * many + parts.get(clock, 0), many)
                  for clock, whole in enumerate(wholes, start=1)])


def next_kind(kind, ceilings):
    """The kind that comes directly after the kind when the clocks advance."""
    check_kind(kind, ceilings)
    return kind_after(kind, ceilings)


def kind_after(kind, ceilings):
    """The next kind of a valid kind."""
    wholes, order = kind
    first, others = order[0], order[1:]
    if first:
        ended = [clock for clock in first if wholes[clock - 1] == ceilings[clock - 1]]
        going = tuple([clock for clock in first if clock not in ended])
        return one_more(wholes, ended), ((), going, *others) if going else ((), *others)
    if not others:
        return kind
    # The clocks with the greatest part are the first ones to read whole hours again.
    return one_more(wholes, others[-1]), (others[-1], *others[:-1])


def one_more(wholes, clocks):
    """The whole numbers with those of the clocks raised by one."""
    return tuple([whole + 1 if clock in clocks else whole for clock, whole in enumerate(wholes, start=1)])


def rests_of(kind, ceilings):
    """The kind, its next kind and so on, up to the last kind."""
    now = kind
    after = kind_after(now, ceilings)
    while after != now:
        yield now
        now = after
        after = kind_after(now, ceilings)
    yield now


def place_of(kind, clock):
    """Where the clock reads, as an integer: twice the hours if they are whole, one more if not; None if beyond."""
    wholes, order = kind
    for number, group in enumerate(order):
        if clock in group:
            return 2 * wholes[clock - 1] + (1 if number > 0 else 0)
    return None


def place_in(place, span):
    """Does a clock with this place read a moment in the span, whose limits are not above its ceiling?"""
    low, high = span
    if place is None:
        return high is None
    if place < 2 * low[0] + 1 - low[1]:
        return False
    return high is None or place <= 2 * high[0] - 1 + high[1]


def kind_in(kind, ceilings, clock, span):
    """Does the clock with this number read a moment in the span?"""
    for edge in span:
        if edge is not None and edge[0] > ceilings[clock - 1]:
            raise BeyondCeiling(clock, edge[0])
    return place_in(place_of(kind, clock), span)


def restart_kind(kind, clocks):
    """The kind after the clocks with these numbers are set to zero."""
    wholes, order = kind
    zeroed = tuple([0 if clock in clocks else whole for clock, whole in enumerate(wholes, start=1)])
    others = [tuple([clock for clock in group if clock not in clocks]) for group in order[1:]]
    return zeroed, (tuple(sorted(set(order[0] + clocks))), *[group for group in others if group])


def answer(readings, rest, other, ceilings):
    """Some rest of the other readings that leads to the same kind as the rest of the readings."""
    first, second = kind_of(readings, ceilings), kind_of(other, ceilings)
    if first != second:
        raise UnlikeKinds(first, second)
    advanced = [added(reading, rest) for reading in readings]
    return rest_to(other, kind_of(advanced, ceilings), ceilings)


def rest_to(readings, kind, ceilings):
    """Some rest after which the readings have the kind, which is the one that they have or a later one."""
    wholes, order = kind
    if order[0]:
        clock = order[0][0]
        return since(readings[clock - 1], (wholes[clock - 1], 1))
    # Each clock must have passed its whole hours, or its ceiling if it is beyond.
    passed = [(min(whole, ceiling), 1) for whole, ceiling in zip(wholes, ceilings)]
    rests = [since(reading, limit) for reading, limit in zip(readings, passed) if compared(reading, limit) <= 0]
    if not rests:
        return (0, 1)
    least = longest_rest(rests)
    if len(order) == 1:
        return added(least, (1, 1))
    clock = order[-1][0]
    return halfway(least, since(readings[clock - 1], (wholes[clock - 1] + 1, 1)))


def longest_rest(rests):
    """The longest one of some rests."""
    longest = (0, 1)
    for rest in rests:
        if compared(rest, longest) > 0:
            longest = rest
    return longest
