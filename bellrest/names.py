"""Names of deeds, gates, clocks and states."""

MOST_LETTERS = 12
MOST_CHARACTERS = 200


def is_simple(value):
    """Is the value a simple name?"""
    if not (isinstance(value, str) and 1 <= len(value) <= MOST_LETTERS):
        return False
    return all("a" <= letter <= "z" for letter in value)


def is_name(value):
    """Is the value a name: simple names joined by single dots?"""
    if not (isinstance(value, str) and len(value) <= MOST_CHARACTERS):
        return False
    return all(is_simple(part) for part in value.split("."))
