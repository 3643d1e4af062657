"""Cases: facts about one unknown run of a gate."""

from bellrest.caseruns import all_prefixes, end_table, longest_prefixes, prefix_of_path, some_prefix
from bellrest.errors import Contradiction, InvalidFact, InvalidSight, NothingFits, NothingToRedo, NothingToUndo
from bellrest.forms import is_tuple_of, is_whole
from bellrest.gateforms import are_different_names
from bellrest.moments import since
from bellrest.pathtables import run_with
from bellrest.points import point
from bellrest.sights import WindowSight, span_after, span_before
from bellrest.slack import span_of_gap
from bellrest.spans import in_span, is_span, span_cover


class Case:
    """Collects facts about a run with the rest zero and so many entries."""

    def __init__(self, gate, length):
        many = len(longest_prefixes(gate, length, ())[0][0])
        if many < length:
            raise NothingFits(many + 1)
        self.gate = gate
        self.length = length
        self._facts = ()
        # The facts before each change that can be taken back, and after each one that was taken back.
        self._before = []
        self._after = []

    @classmethod
    def seen(cls, gate, sight):
        """A new case to which all that the sight tells has been told."""
        if sight.hidden or isinstance(sight, WindowSight):
            raise InvalidSight(len(sight.entries))
        case = cls(gate, len(sight.entries))
        for index, (span, deed) in enumerate(sight.entries):
            case.tell(("deed", index, (deed,)))
            case.tell(("moment", index, span))
        return case

    def tell(self, fact):
        """Add a fact."""
        check_fact(self.gate, self.length, fact)
        facts = (*self._facts, fact)
        if some_prefix(self.gate, self.length, facts) is None:
            raise Contradiction(core_of(self.gate, self.length, facts))
        self._change(facts)

    def forget(self, number):
        """Remove the fact with this number."""
        if not (is_whole(number) and 0 <= number < len(self._facts)):
            raise InvalidFact(number)
        self._change(self._facts[:number] + self._facts[number + 1:])

    def _change(self, facts):
        """Replace the facts; nothing is left to do again."""
        self._before.append(self._facts)
        self._after = []
        self._facts = facts

    def undo(self):
        """Take back the last change of the facts."""
        if not self._before:
            raise NothingToUndo()
        self._after.append(self._facts)
        self._facts = self._before.pop()

    def again(self):
        """Do once more what the last undo took back."""
        if not self._after:
            raise NothingToRedo()
        self._before.append(self._facts)
        self._facts = self._after.pop()

    def facts(self):
        """The told facts in order."""
        return self._facts

    def closed(self):
        """The strongest facts that hold in all remaining runs."""
        return closed_facts(self.gate, self.length, all_prefixes(self.gate, self.length, self._facts))

    def ask(self, fact):
        """Does the fact hold "always", "never" or "sometimes" in the remaining runs?"""
        check_fact(self.gate, self.length, fact)
        if not self._has_run_with(fact):
            return "never"
        fails = [other for other in opposite_facts(self.gate, fact) if self._has_run_with(other)]
        return "sometimes" if fails else "always"

    def _has_run_with(self, fact):
        """Does some remaining run meet the fact?"""
        return some_prefix(self.gate, self.length, (*self._facts, fact)) is not None

    def paths_left(self):
        """The paths of the remaining runs, ascending."""
        return tuple([prefix[0] for prefix in all_prefixes(self.gate, self.length, self._facts)])

    def table(self, path):
        """The shut table of the remaining runs with this path, or None."""
        if len(path) != self.length:
            return None
        prefix = prefix_of_path(self.gate, self._facts, path)
        return None if prefix is None else end_table(prefix)

    def example(self):
        """Some remaining run."""
        prefix = some_prefix(self.gate, self.length, self._facts)
        return run_with(self.gate, prefix[0], point(end_table(prefix)))


def check_fact(gate, length, fact):
    """Raise InvalidFact if this is not a fact."""
    if not is_fact(gate, length, fact):
        raise InvalidFact(fact)


def is_fact(gate, length, value):
    """Is the value a fact for a case with this gate and this length?"""
    if is_tuple_of(3, value):
        word, place, told = value
        if word == "state":
            return is_index(length + 1, place) and is_choice([state for state, _ in gate.states], told)
        if word == "deed":
            return is_index(length, place) and is_choice(gate.deeds, told)
        return word == "moment" and is_index(length, place) and is_span(told)
    if is_tuple_of(4, value):
        word, place, other, span = value
        if word == "gap":
            return is_index(length, other) and is_index(other, place) and is_span(span)
        return word == "clock" and is_index(length, place) and other in gate.clocks and is_span(span)
    return False


def is_index(count, value):
    """Is the value an integer from 0 on and below the count?"""
    return is_whole(value) and 0 <= value < count


def is_choice(names, value):
    """Is the value a tuple of one or more different ones of these names?"""
    return value != () and are_different_names(names, value)


def fact_holds(gate, fact, run):
    """Does the fact hold in the let run with the rest zero?"""
    row, path, _ = run
    word, place, told = fact[0], fact[1], fact[-1]
    if word == "state":
        return state_after(gate, path, place) in told
    if word == "deed":
        return row[place][1] in told
    if word == "moment":
        return in_span(row[place][0], told)
    if word == "gap":
        return in_span(since(row[place][0], row[fact[2]][0]), told)
    zero = last_restarts(gate, path[:place])[fact[2]]
    return in_span(since(row[zero - 1][0] if zero > 0 else (0, 1), row[place][0]), told)


def state_after(gate, path, count):
    """The state after so many steps of the path."""
    return gate.steps[path[count - 1]][4] if count > 0 else gate.states[0][0]


def last_restarts(gate, path):
    """For each clock the number of the last entry of the path that restarts it, or 0."""
    zeros = {clock: 0 for clock in gate.clocks}
    for number, step in enumerate(path, start=1):
        for clock in gate.steps[step][3]:
            zeros[clock] = number
    return zeros


def opposite_facts(gate, fact):
    """Facts of which a run meets at least one if and only if it does not meet the fact."""
    told = fact[-1]
    if fact[0] == "state":
        others = [tuple([state for state, _ in gate.states if state not in told])]
    elif fact[0] == "deed":
        others = [tuple([deed for deed in gate.deeds if deed not in told])]
    else:
        others = [span_before(told), span_after(told)]
    return [(*fact[:-1], other) for other in others if other is not None and other != ()]


def core_of(gate, length, facts):
    """The numbers of some of the facts that no run meets together, although runs meet them without any one of them."""
    core = list(range(len(facts)))
    for number in range(len(facts)):
        others = [other for other in core if other != number]
        if some_prefix(gate, length, [facts[other] for other in others]) is None:
            core = others
    return tuple(core)


def closed_facts(gate, length, prefixes):
    """The strongest facts that hold in all runs of the prefixes with so many entries."""
    found = [state_fact(gate, prefixes, 0)]
    for index in range(length):
        found.append(("deed", index, tuple(sorted(set([gate.steps[prefix[0][index]][1] for prefix in prefixes])))))
        found.append(("moment", index, cover_of_gaps(prefixes, [0] * len(prefixes), index)))
        zeros = [last_restarts(gate, prefix[0][:index]) for prefix in prefixes]
        for clock in gate.clocks:
            found.append(("clock", index, clock, cover_of_gaps(prefixes, [zero[clock] for zero in zeros], index)))
        for first in range(index):
            found.append(("gap", first, index, cover_of_gaps(prefixes, [first + 1] * len(prefixes), index)))
        found.append(state_fact(gate, prefixes, index + 1))
    return tuple(found)


def state_fact(gate, prefixes, count):
    """The fact that tells all states after so many entries."""
    states = {state_after(gate, prefix[0], count): True for prefix in prefixes}
    return ("state", count, tuple([state for state, _ in gate.states if state in states]))


def cover_of_gaps(prefixes, firsts, index):
    """The smallest span of the rests to the entry from the moments with these numbers, one for each prefix."""
    spans = [span_of_gap(prefix[3], first, index + 1) for prefix, first in zip(prefixes, firsts)]
    return span_cover(*spans)
