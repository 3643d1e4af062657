"""Forms of plain values that several modules ask for."""


def is_whole(value):
    """Is the value an integer? True and False are none."""
    return isinstance(value, int) and not isinstance(value, bool)


def is_tuple_of(size, value):
    """Is the value a tuple with so many items?"""
    return isinstance(value, tuple) and len(value) == size


def is_numeral(value):
    """Is the value a string of decimal digits without leading zeros?"""
    if not isinstance(value, str):
        return False
    # Without isascii, digits of other scripts would pass.
    if not (value.isascii() and value.isdigit()):
        return False
    return value == "0" or not value.startswith("0")
