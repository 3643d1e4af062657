"""What surely happened, and what happens between two deeds."""

from bellrest.barerows import BareWalk
from bellrest.errors import InvalidSight, NothingFits
from bellrest.fitting import first_wrong, is_counted, states_counted, watched
from bellrest.graphs import explored, greatest_weights, heavy_loops, leading_to, least_weights
from bellrest.hands import first_hand_spot, hand_edges
from bellrest.timing import check_deed, limits_of
from bellrest.zonegraphs import zone_graph


def watched_entry(gate, sight, index):
    """The watched gate, if there are an entry of the sight with this index and fitting runs."""
    joined = watched(gate, sight)
    if not 0 <= index < len(sight.entries):
        raise InvalidSight(index)
    wrong = first_wrong(gate, sight)
    if wrong is not None:
        raise NothingFits(wrong)
    return joined


def fitting_graph(nodes, graph, count):
    """The graph with only those edges from which a run can go on until so many entries were seen.

    The nodes are pairs that begin with states of the watched gate.
    """
    return leading_to(graph, [place for place, (state, _) in enumerate(nodes) if is_counted(state, count)])


def seeing_nodes(nodes, graph, index):
    """The indexes of the nodes with an edge with which the entry of the sight is seen."""
    after = [is_counted(state, index + 1) for state, _ in nodes]
    return [place for place, (state, _) in enumerate(nodes) if is_counted(state, index)
            and any(after[target] for target, _, _ in graph[place])]


def moment_span(gate, sight, index):
    """The pair of limits of the moments that the entry of the sight has in fitting runs."""
    joined = watched_entry(gate, sight, index)
    last = len(sight.entries)
    ends = states_counted(joined, last)
    first = first_hand_spot(joined, joined.ceilings)
    spots, graph = explored(
        [first], lambda spot: [] if spot[0] in ends else hand_edges(joined, joined.ceilings, spot, ()))
    useful = fitting_graph(spots, graph, last)
    return limits_of(spots, useful, [0], seeing_nodes(spots, useful, index))


def how_many(gate, sight, index, deed):
    """The least and the greatest number of entries with the deed directly before the entry of the sight."""
    joined = watched_entry(gate, sight, index)
    last = len(sight.entries)
    zones, graph = zone_graph(joined, states_counted(joined, last))
    useful = fitting_graph(zones, graph, last)
    ends = seeing_nodes(zones, useful, index)
    leading = leading_to(counting_graph(joined, zones, useful, index, deed), ends)
    counts = least_weights(leading, [0])
    least = min([counts[node] for node in ends])
    if heavy_loops(leading):
        return least, None
    counts = greatest_weights(leading, [0])
    return least, max([counts[node] for node in ends])


def counting_graph(joined, zones, graph, index, deed):
    """The graph in which the steps with the deed have the weight 1 from the entry of the sight before the index on."""
    here = [is_counted(state, index) for state, _ in zones]
    return [[(target, 1 if here[node] and here[target] and joined.steps[step][1] == deed else 0, step)
             for target, _, step in edges] for node, edges in enumerate(graph)]


def surely(gate, sight, index, deed):
    """Does the deed happen "always", "never" or "sometimes" directly before the entry of the sight?"""
    least, greatest = how_many(gate, sight, index, deed)
    if least >= 1:
        return "always"
    return "never" if greatest == 0 else "sometimes"


def passage(gate, first, second, deed):
    """Does the deed happen "always", "never" or "sometimes" between the two others? None if nothing is between them."""
    for name in (first, second, deed):
        check_deed(gate, name)
    told = told_by_passages(gate, first, second, deed)
    if len(told) == 2:
        return "sometimes"
    if told == []:
        return None
    return "always" if told[0] else "never"


def told_by_passages(gate, first, second, deed):
    """Of True and False those that tell of some passage whether the deed happens in it."""
    _, graph = zone_graph(gate)
    todo = [(target, False) for edges in graph for target, _, step in edges if gate.steps[step][1] == first]
    known = set()
    told = set()
    while todo:
        place = todo.pop()
        if place not in known:
            known.add(place)
            node, happened = place
            for target, _, step in graph[node]:
                name = gate.steps[step][1]
                if name == second:
                    told.add(happened)
                elif name != first:
                    todo.append((target, happened or name == deed))
    return sorted(told)


def bare_rows(gate, length):
    """All bare rows of this length that the gate lets, ascending."""
    walk = BareWalk(gate)
    rows = [((), walk.start())]
    for _ in range(length):
        longer = [((*row, deed), walk.after(place, deed)) for row, place in rows for deed in gate.deeds]
        rows = [(row, place) for row, place in longer if place]
    return tuple([row for row, _ in rows])
