"""Plain enumeration of rows whose moments lie on a grid."""

from bellrest.moments import in_lowest_terms, since
from bellrest.running import after_rest, after_step, start


def grid_rows(gate, length, parts, until):
    """All let rows with so many entries and moments on the grid up to so many hours, ascending."""
    grid = [in_lowest_terms(number, parts) for number in range(until * parts + 1)]
    reached = [((0, 1), start(gate))]
    yield from rows_from(gate, grid, length, (), reached)


def rows_from(gate, grid, length, row, reached):
    """All let rows that begin with the row, have so many entries more and go on at moments of the grid.

    reached has the standings after the row, each with the moment of the last entry.
    """
    if length == 0:
        yield row
        return
    left = length - 1
    for index, moment in enumerate(grid):
        later = grid[index:]
        rested = rested_at(gate, reached, moment)
        # A rest that is too long stays too long.
        if not rested:
            return
        for deed in gate.deeds:
            after = [(moment, standing) for standing in standings_after(gate, rested, deed)]
            if after:
                longer = (*row, (moment, deed))
                yield from rows_from(gate, later, left, longer, after)


def rested_at(gate, reached, moment):
    """The standings at the moment, if all have rested since the last entry."""
    rested = [after_rest(gate, standing, since(now, moment)) for now, standing in reached]
    return [standing for standing in rested if standing is not None]


def standings_after(gate, reached, deed):
    """The different standings directly after the deed."""
    found = {}
    for standing in reached:
        for step in gate.steps_from(standing[0]):
            after = after_step(gate, standing, step) if gate.steps[step][1] == deed else None
            if after is not None:
                found[after] = True
    return list(found)


def grid_bare(gate, length, parts, until):
    """The bare rows of the rows that grid_rows yields, ascending, without duplicates."""
    bare = [tuple([deed for _, deed in row]) for row in grid_rows(gate, length, parts, until)]
    return tuple(sorted(set(bare)))
