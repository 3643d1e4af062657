"""Sights: what somebody has seen of a row."""

from bellrest.errors import InvalidSight, InvalidSpan
from bellrest.forms import is_tuple_of, is_whole
from bellrest.gates import Gate
from bellrest.names import is_simple
from bellrest.spans import EVER, check_rounding, has_moment, hour_span, in_span, is_span, span_meet, span_text
from bellrest.watchers import label, without_duplicates


class Sight:
    """Entries that were seen, and the deeds that nobody sees."""

    def __init__(self, entries, hidden=()):
        check_items(entries, is_seen_entry)
        if not is_hidden(hidden):
            raise InvalidSight(len(entries))
        for index, (_, deed) in enumerate(entries):
            if deed in hidden:
                raise InvalidSight(index)
        self.entries = entries
        self.hidden = hidden

    def fits(self, row):
        """Does the row fit the sight?"""
        return are_fitting(self.entries, self.hidden, row)

    def text(self):
        """The text of the sight."""
        return text_of(self.entries, self.hidden)

    def cut(self, count):
        """The sight with the first entries only."""
        return Sight(self.entries[:count], self.hidden)

    def watcher(self, name, deeds):
        """The gate that follows the sight through rows over these deeds."""
        return following_gate(name, deeds, self.entries, self.hidden, None, None)


class RoundedSight(Sight):
    """The hours of the entries were seen, rounded down or up."""

    def __init__(self, hours, hidden=(), *, rounding="down"):
        check_rounding(rounding)
        check_items(hours, is_seen_hour)
        entries = tuple([(hour_span(hour, rounding), deed) for hour, deed in hours])
        super().__init__(entries, hidden)
        self.hours = hours
        self.rounding = rounding

    def text(self):
        """The text of the sight."""
        return f"rounded {self.rounding}: {text_of(self.entries, self.hidden)}"

    def cut(self, count):
        """The sight with the first entries only."""
        return RoundedSight(self.hours[:count], self.hidden, rounding=self.rounding)


class BareSight(Sight):
    """Only the deeds of the entries were seen."""

    def __init__(self, names, hidden=()):
        check_items(names, is_simple)
        entries = tuple([(EVER, deed) for deed in names])
        super().__init__(entries, hidden)
        self.names = names

    def text(self):
        """The text of the sight."""
        return f"bare: {text_of(self.entries, self.hidden)}"

    def cut(self, count):
        """The sight with the first entries only."""
        return BareSight(self.names[:count], self.hidden)


class WindowSight(Sight):
    """Nothing was seen outside of a window."""

    def __init__(self, window, entries, hidden=()):
        if not is_span(window):
            raise InvalidSpan(window)
        super().__init__(entries, hidden)
        for index, (span, _) in enumerate(entries):
            if span_meet(window, span) is None:
                raise InvalidSight(index)
        self.window = window

    def fits(self, row):
        """Does the part of the row that lies in the window fit?"""
        inner = [entry for entry in row if in_span(entry[0], self.window)]
        return are_fitting(self.entries, self.hidden, inner)

    def text(self):
        """The text of the sight."""
        return f"window {span_text(self.window)}: {text_of(self.entries, self.hidden)}"

    def cut(self, count):
        """The sight with the first entries only."""
        return WindowSight(self.window, self.entries[:count], self.hidden)

    def watcher(self, name, deeds):
        """The gate that follows the sight through rows over these deeds."""
        entries = [(span_meet(span, self.window), deed) for span, deed in self.entries]
        before, after = span_before(self.window), span_after(self.window)
        return following_gate(name, deeds, entries, self.hidden, before, after)


def check_items(items, is_item):
    """Raise InvalidSight with the index of the first wrong item, or 0 if this is not a tuple."""
    if not isinstance(items, tuple):
        raise InvalidSight(0)
    for index, item in enumerate(items):
        if not is_item(item):
            raise InvalidSight(index)


def is_seen_entry(value):
    """Is the value a pair of a span and a simple name?"""
    return is_tuple_of(2, value) and is_span(value[0]) and is_simple(value[1])


def is_seen_hour(value):
    """Is the value a pair of an hour and a simple name?"""
    return is_tuple_of(2, value) and is_whole(value[0]) and value[0] >= 0 and is_simple(value[1])


def is_hidden(value):
    """Is the value a tuple of different simple names?"""
    if not (isinstance(value, tuple) and all(is_simple(deed) for deed in value)):
        return False
    return len(set(value)) == len(value)


def are_fitting(entries, hidden, row):
    """Do the entries of the row that are not hidden agree with the entries of a sight?"""
    visible = [entry for entry in row if entry[1] not in hidden]
    if len(visible) != len(entries):
        return False
    return all(deed == seen and in_span(moment, span) for (moment, deed), (span, seen) in zip(visible, entries))


def text_of(entries, hidden):
    """The text of the entries and the hidden deeds."""
    text = ", ".join([f"{span_text(span)} {deed}" for span, deed in entries]) if entries else "nothing"
    return f"{text} hiding {' '.join(hidden)}" if hidden else text


def span_before(window):
    """The span of the moments earlier than the window, or None."""
    limit, reach = window[0]
    high = (limit, 1 - reach)
    return ((0, 1), high) if has_moment((0, 1), high) else None


def span_after(window):
    """The span of the moments later than the window, or None."""
    if window[1] is None:
        return None
    limit, reach = window[1]
    return (limit, 1 - reach), None


def following_gate(name, deeds, entries, hidden, before, after):
    """The gate that counts the entries that were seen so far; before and after stand for what is not seen, or None."""
    names = without_duplicates(deeds)
    steps = []
    for count in range(len(entries) + 1):
        steps.extend([(label(count), deed, (), (), label(count)) for deed in names if deed in hidden])
        if count == 0:
            steps.extend(unseen_steps(label(count), names, hidden, before))
        if count == len(entries):
            steps.extend(unseen_steps(label(count), names, hidden, after))
        elif entries[count][1] in names:
            span, deed = entries[count]
            steps.append((label(count), deed, (("t", span),), (), label(count + 1)))
    states = tuple([(label(count), ()) for count in range(len(entries) + 1)])
    return Gate(name, ("t",), states, tuple(steps), names)


def unseen_steps(state, names, hidden, span):
    """The steps for deeds that are not hidden but happen in a span in which nothing is seen, or None."""
    if span is None:
        return []
    return [(state, deed, (("t", span),), (), state) for deed in names if deed not in hidden]
