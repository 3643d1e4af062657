"""Looks: of which entries must the hours be known?"""

from bellrest.fitting import is_counted, seen_zones, states_after, watched
from bellrest.pathtables import run_of
from bellrest.running import standings
from bellrest.sights import Sight
from bellrest.spans import EVER, hour_of, hour_span
from bellrest.watchers import label


def fewest_looks(gate, row, hidden=()):
    """The least one of the choices with the fewest looks that settle the row, or None."""
    standings(gate, row)
    seen = [entry for entry in row if entry[1] not in hidden]
    ends = states_after(gate, sight_with(seen, hidden, list(range(len(seen)))))
    if len(ends) != 1:
        return None
    # A choice settles the row if and only if it meets every clash. Clashes are found one by one.
    clashes = []
    looks = ()
    clash = least_clash(gate, seen, hidden, looks, ends[0])
    while clash is not None:
        clashes.append(clash)
        looks = least_choice(clashes, len(seen))
        clash = least_clash(gate, seen, hidden, looks, ends[0])
    return looks


def sight_with(seen, hidden, looks):
    """The sight of these entries, in which the hours are known of those that are looked at."""
    spans = [hour_span(hour_of(moment)) if index in looks else EVER for index, (moment, _) in enumerate(seen)]
    return Sight(tuple([(span, deed) for span, (_, deed) in zip(spans, seen)]), hidden)


def other_hours(gate, seen, hidden, looks, end):
    """The indexes of the entries with other hours in some run that fits the looks and ends elsewhere, or None."""
    sight = sight_with(seen, hidden, looks)
    joined = watched(gate, sight)
    for state, _, path in seen_zones(joined, sight):
        if is_counted(state, len(seen)) and state != f"{end}.{label(len(seen))}":
            row, _, _ = run_of(joined, path)
            hours = [hour_of(moment) for moment, deed in row if deed not in hidden]
            return [index for index, (moment, _) in enumerate(seen) if hour_of(moment) != hours[index]]
    return None


def least_clash(gate, seen, hidden, looks, end):
    """Indexes of which each choice that settles the row has one, and the looks have none; or None if the looks do.

    No index can be left out.
    """
    first = other_hours(gate, seen, hidden, looks, end)
    if first is None:
        return None
    clash = first
    for index in first:
        if index in clash:
            kept = [other for other in range(len(seen)) if other == index or other not in clash]
            smaller = other_hours(gate, seen, hidden, kept, end)
            clash = clash if smaller is None else smaller
    return clash


def least_choice(clashes, count):
    """The least one of the shortest ascending tuples of indexes below count that have one of each clash."""
    for size in range(count + 1):
        found = choice_of_size(clashes, size, 0)
        if found is not None:
            return found
    return None


def choice_of_size(clashes, size, first):
    """The least ascending tuple of up to so many indexes, none below the first one, with one of each clash; or None."""
    if not clashes:
        return ()
    if size == 0:
        return None
    # Above the last index of a clash nothing could meet it any more.
    for index in range(first, min([clash[-1] for clash in clashes]) + 1):
        rest = choice_of_size([clash for clash in clashes if index not in clash], size - 1, index + 1)
        if rest is not None:
            return (index, *rest)
    return None
