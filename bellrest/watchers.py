"""Watchers: gates that only limit rows."""

from bellrest.gates import Gate

LETTERS = "abcdefghijklmnopqrstuvwxyz"


def label(index):
    """The name of a state: the index in base 26, with the letters as digits."""
    text = LETTERS[index % 26]
    left = index // 26
    while left > 0:
        text = LETTERS[left % 26] + text
        left = left // 26
    return text


def pace(name, span, deeds):
    """The watcher that lets these deeds only after rests in the span."""
    names = without_duplicates(deeds)
    steps = tuple([("go", deed, (("c", span),), ("c",), "go") for deed in names])
    return Gate(name, ("c",), (("go", ()),), steps, names)


def window(name, span, deeds):
    """The watcher that lets these deeds only at moments in the span."""
    names = without_duplicates(deeds)
    steps = tuple([("go", deed, (("t", span),), (), "go") for deed in names])
    return Gate(name, ("t",), (("go", ()),), steps, names)


def ban(name, deeds):
    """The watcher that never lets these deeds."""
    return Gate(name, ("c",), (("go", ()),), (), without_duplicates(deeds))


def turns(name, deeds):
    """The watcher that lets these deeds in this order only, again and again."""
    states = tuple([(label(index), ()) for index in range(len(deeds))])
    steps = tuple([(label(index), deed, (), (), label((index + 1) % len(deeds))) for index, deed in enumerate(deeds)])
    return Gate(name, ("c",), states, steps, without_duplicates(deeds))


def without_duplicates(deeds):
    """The deeds, ascending, each once."""
    return tuple(sorted(set(deeds)))
