"""Edges and spans: sets of moments between two limits."""

from bellrest.errors import InvalidSpan
from bellrest.forms import is_numeral, is_tuple_of, is_whole
from bellrest.moments import compared, halfway, whole_and_part

EVER = ((0, 1), None)

MOST_DIGITS = 9


def is_edge(value):
    """Is the value an edge?"""
    if not is_tuple_of(2, value):
        return False
    limit, reach = value
    return is_whole(limit) and is_whole(reach) and reach in (0, 1)


def is_span(value):
    """Is the value a span?"""
    if not is_tuple_of(2, value):
        return False
    low, high = value
    if not (is_edge(low) and low[0] >= 0):
        return False
    return high is None or (is_edge(high) and has_moment(low, high))


def has_moment(low, high):
    """Does a moment lie between the two edges? The high one may be None."""
    if high is None or high[0] > low[0]:
        return True
    return high[0] == low[0] and high[1] == 1 and low[1] == 1


def span(low, high=None, *, low_reach=1, high_reach=1):
    """The span with these limits and reaches."""
    found = ((low, low_reach), None if high is None else (high, high_reach))
    if not is_span(found):
        raise InvalidSpan(found)
    return found


def in_span(moment, span):
    """Does the moment lie in the span?"""
    low, high = span
    place = compared(moment, (low[0], 1))
    if place < 0 or (place == 0 and low[1] == 0):
        return False
    if high is None:
        return True
    place = compared(moment, (high[0], 1))
    return place < 0 or (place == 0 and high[1] == 1)


def low_order(edge):
    """A key that is greater for a low edge that leaves fewer moments."""
    return edge[0], -edge[1]


def span_meet(*spans):
    """The span of the moments that lie in all spans, or None."""
    low, high = EVER
    for one_low, one_high in spans:
        low = max(low, one_low, key=low_order)
        if high is None or (one_high is not None and one_high < high):
            high = one_high
    return (low, high) if has_moment(low, high) else None


def span_cover(*spans):
    """The smallest span that contains all spans, or None without spans."""
    if not spans:
        return None
    low = min([one[0] for one in spans], key=low_order)
    highs = [one[1] for one in spans]
    return low, None if None in highs else max(highs)


def add_edges(first, second):
    """The sum of two edges: it is reached if both are."""
    return first[0] + second[0], first[1] * second[1]


def span_added(first, second):
    """The span of all sums of a moment of the first span and one of the second span."""
    low = add_edges(first[0], second[0])
    if first[1] is None or second[1] is None:
        return low, None
    return low, add_edges(first[1], second[1])


def span_moment(span):
    """A moment of the span: the low limit if it is reached, and else one above it."""
    low, high = span
    if low[1] == 1:
        return low[0], 1
    if high is None:
        return low[0] + 1, 1
    return halfway((low[0], 1), (high[0], 1))


def span_text(span):
    """The text of a span."""
    low, high = span
    first = "[" if low[1] == 1 else "("
    if high is None:
        return f"{first}{low[0]},)"
    last = "]" if high[1] == 1 else ")"
    return f"{first}{low[0]},{high[0]}{last}"


def read_span(text):
    """The span with this text."""
    found = span_in_text(text)
    if found is None:
        raise InvalidSpan(text)
    return found


def is_limit_text(value):
    """Is the value the text of a limit?"""
    return is_numeral(value) and len(value) <= MOST_DIGITS


def span_in_text(text):
    """The span with this text, or None if the text is not one of a span."""
    first, last = text[:1], text[-1:]
    low, comma, high = text[1:-1].partition(",")
    if first not in ("[", "(") or comma == "" or not is_limit_text(low):
        return None
    low_edge = (int(low), 1 if first == "[" else 0)
    if high == "":
        return (low_edge, None) if last == ")" else None
    if last not in ("]", ")") or not is_limit_text(high):
        return None
    found = (low_edge, (int(high), 1 if last == "]" else 0))
    return found if is_span(found) else None


def hour_of(moment, rounding="down"):
    """The hour of the moment, rounded down or up."""
    check_rounding(rounding)
    whole, part = whole_and_part(moment)
    return whole + 1 if rounding == "up" and part != (0, 1) else whole


def hour_span(hour, rounding="down"):
    """The span of all moments with this hour."""
    check_rounding(rounding)
    if hour < 0:
        raise InvalidSpan(hour)
    if rounding == "down":
        return (hour, 1), (hour + 1, 0)
    return ((hour - 1, 0) if hour > 0 else (0, 1)), (hour, 1)


def check_rounding(rounding):
    """Raise InvalidSpan if this is not a rounding."""
    if rounding not in ("down", "up"):
        raise InvalidSpan(rounding)
