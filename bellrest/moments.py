"""Moments: exact numbers of hours, as pairs of a numerator and a denominator."""

from math import gcd

from bellrest.errors import Backwards, InvalidMoment
from bellrest.forms import is_numeral, is_tuple_of, is_whole

MOST_CHARACTERS = 40


def is_moment(value):
    """Is the value a moment?"""
    if not is_tuple_of(2, value):
        return False
    numerator, denominator = value
    if not (is_whole(numerator) and is_whole(denominator)):
        return False
    return numerator >= 0 and denominator >= 1 and gcd(numerator, denominator) == 1


def moment(numerator, denominator=1):
    """The moment of this fraction, in lowest terms."""
    if numerator < 0 or denominator < 1:
        raise InvalidMoment((numerator, denominator))
    return in_lowest_terms(numerator, denominator)


def in_lowest_terms(numerator, denominator):
    """The pair of a fraction in lowest terms."""
    shared = gcd(numerator, denominator)
    return numerator // shared, denominator // shared


def added(*moments):
    """The sum of the moments."""
    total = (0, 1)
    for numerator, denominator in moments:
        total = in_lowest_terms(total[0] * denominator + numerator * total[1], total[1] * denominator)
    return total


def since(first, second):
    """The rest from the first moment to the second one."""
    numerator = second[0] * first[1] - first[0] * second[1]
    if numerator < 0:
        raise Backwards(first, second)
    return in_lowest_terms(numerator, first[1] * second[1])


def compared(first, second):
    """-1, 0 or 1, as the first moment is less than, equal to or greater than the second one."""
    gap = first[0] * second[1] - second[0] * first[1]
    if gap < 0:
        return -1
    return 1 if gap > 0 else 0


def halfway(first, second):
    """Half of the sum of two moments."""
    numerator, denominator = added(first, second)
    return in_lowest_terms(numerator, 2 * denominator)


def whole_and_part(moment):
    """The greatest integer that is not above the moment, and the moment that remains."""
    numerator, denominator = moment
    return numerator // denominator, (numerator % denominator, denominator)


def moment_text(moment):
    """The text of a moment."""
    numerator, denominator = moment
    return f"{numerator}" if denominator == 1 else f"{numerator}/{denominator}"


def read_moment(text):
    """The moment with this text."""
    found = moment_in_text(text)
    if found is None:
        raise InvalidMoment(text)
    return found


def moment_in_text(text):
    """The moment with this text, or None if the text is not one of a moment."""
    # The length comes first: Python refuses to read very long numerals.
    if len(text) > MOST_CHARACTERS:
        return None
    numerator, slash, denominator = text.partition("/")
    if slash == "":
        return (int(numerator), 1) if is_numeral(numerator) else None
    if denominator == "1" or not (is_numeral(numerator) and is_numeral(denominator)):
        return None
    found = (int(numerator), int(denominator))
    return found if is_moment(found) else None
