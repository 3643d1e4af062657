"""Doubts: which one of several gates is the true one?"""

from bellrest.alike import parting_row, shortest_row
from bellrest.errors import InvalidHall, NothingFits, NothingToUndo
from bellrest.halls import is_new_name
from bellrest.running import lets
from bellrest.within import check_settled


class Doubt:
    """Knows that the true gate is one of several candidates."""

    def __init__(self, *gates):
        if not gates:
            raise InvalidHall(0)
        for index, gate in enumerate(gates):
            if not is_new_name(gate.name, gates[:index]):
                raise InvalidHall(index)
        for gate in gates:
            check_settled(gate)
        # The candidates that are left, after each row that was said and not taken back.
        self._lefts = [gates]

    def saw(self, row):
        """Drop the candidates that do not let the row."""
        self._say(row, True)

    def missed(self, row):
        """Drop the candidates that let the row."""
        self._say(row, False)

    def undo(self):
        """Take back the last row that was said."""
        if len(self._lefts) == 1:
            raise NothingToUndo()
        self._lefts.pop()

    def remaining(self):
        """The names of the candidates that are left."""
        return tuple([gate.name for gate in self._lefts[-1]])

    def ask(self, row):
        """Do the candidates that are left let the row: "yes", "no" or "maybe"?"""
        told = [lets(gate, row) for gate in self._lefts[-1]]
        if all(told):
            return "yes"
        return "maybe" if any(told) else "no"

    def next_row(self):
        """Some row with the fewest entries that some candidates that are left let and some do not, or None."""
        first, *others = self._lefts[-1]
        # A row that parts any two candidates parts the first one from some other one.
        return shortest_row([parting_row(first, other) for other in others])

    def _say(self, row, is_let):
        """Keep the candidates that let the row, or those that do not."""
        kept = tuple([gate for gate in self._lefts[-1] if lets(gate, row) == is_let])
        if kept == ():
            raise NothingFits(len(self._lefts) - 1)
        self._lefts.append(kept)
