"""Finite unions of lots of tables over the same clocks."""

from bellrest.errors import Unlike
from bellrest.moves import caps_inside, earlier, later, meet, release, restart
from bellrest.points import point
from bellrest.shutting import tightest
from bellrest.tables import anything, keeps, tighter_of, with_cap


class Lot:
    """The union of the lots of some tables; None stands for the empty lot."""

    def __init__(self, clocks, *tables):
        for table in tables:
            if table is not None and len(table) != clocks + 1:
                raise Unlike(clocks, len(table) - 1)
        self.clocks = clocks
        self._parts = parts_of(tables)

    @classmethod
    def everything(cls, clocks):
        """The lot of all readings."""
        return cls(clocks, anything(clocks))

    @classmethod
    def nothing(cls, clocks):
        """The empty lot."""
        return cls(clocks)

    def __or__(self, other):
        check_clocks(self.clocks, other.clocks)
        both = self._parts + other._parts
        return Lot(self.clocks, *both)

    def __and__(self, other):
        check_clocks(self.clocks, other.clocks)
        common = [meet(one, more) for one in self._parts for more in other._parts]
        return Lot(self.clocks, *common)

    def __sub__(self, other):
        check_clocks(self.clocks, other.clocks)
        rest = parts_without(self._parts, other._parts)
        return Lot(self.clocks, *rest)

    def __contains__(self, readings):
        check_clocks(self.clocks, len(readings))
        return any(keeps(table, readings) for table in self._parts)

    def tables(self):
        """Different shut tables whose lots together make up this one."""
        return self._parts

    def is_empty(self):
        """Does no reading lie in the lot?"""
        return self._parts == ()

    def example(self):
        """Some readings of the lot, or None."""
        return point(self._parts[0]) if self._parts else None

    def missing(self, other):
        """Some readings of the other lot that are not in this one, or None."""
        check_clocks(self.clocks, other.clocks)
        rest = parts_without(other._parts, self._parts)
        return point(rest[0]) if rest else None

    def covers(self, other):
        """Do all readings of the other lot lie in this one?"""
        return self.missing(other) is None

    def later(self):
        """All readings that result when all clocks of some readings advance by the same rest."""
        moved = [later(table) for table in self._parts]
        return Lot(self.clocks, *moved)

    def earlier(self):
        """All readings from which some readings result when all clocks advance by the same rest."""
        moved = [earlier(table) for table in self._parts]
        return Lot(self.clocks, *moved)

    def restart(self, *clocks):
        """The readings with the clocks of these numbers set to zero."""
        moved = [restart(table, clocks) for table in self._parts]
        return Lot(self.clocks, *moved)

    def release(self, *clocks):
        """All readings that agree with some readings at all clocks but those of these numbers."""
        moved = [release(table, clocks) for table in self._parts]
        return Lot(self.clocks, *moved)


def check_clocks(expected, given):
    """Raise Unlike if the numbers of clocks differ."""
    if expected != given:
        raise Unlike(expected, given)


def parts_of(tables):
    """Shut tables for the union of the lots, none of which lies inside of another one."""
    parts = ()
    for table in tables:
        held = None if table is None else tightest(table)
        if held is not None and not any(caps_inside(held, part) for part in parts):
            parts = tuple([part for part in parts if not caps_inside(part, held)]) + (held,)
    return parts


def parts_without(tables, others):
    """Shut tables for what lies in one of these tables and in none of the others; all are shut."""
    rest = list(tables)
    for other in others:
        rest = [piece for table in rest for piece in pieces_outside(table, other)]
    return rest


def pieces_outside(table, other):
    """Shut tables for what lies in the first table and not in the second one; both are shut."""
    if meet(table, other) is None:
        return [table]
    pieces = []
    left = table
    for i, row in enumerate(other):
        for j, cap in enumerate(row):
            # A cap that is no tighter than that of the table leaves nothing outside.
            if i != j and tighter_of(table[i][j], cap) != table[i][j]:
                outside = tightest(with_cap(left, j, i, (-cap[0], 1 - cap[1])))
                if outside is not None:
                    pieces.append(outside)
                left = with_cap(left, i, j, cap)
    return pieces
