"""Leading a gate into a state although others do deeds as well: plans and traps."""

from bellrest.forms import is_tuple_of, is_whole
from bellrest.graphs import explored
from bellrest.kindsteps import in_spot_order, steps_in_kind
from bellrest.running import start
from bellrest.spots import is_spot, moves_from, spot_of, spot_rest
from bellrest.timing import check_deed


def check_leading(gate, ours, aim):
    """Raise UnknownName for a deed that the gate does not have, or for the aim if it is not a state."""
    for deed in ours:
        check_deed(gate, deed)
    gate.state_index(aim)


def is_plan(gate, ours, aim, value):
    """Is the value a plan to lead the gate into the aim with our deeds?"""
    check_leading(gate, ours, aim)
    if not isinstance(value, tuple) or not all(is_ranked_move(gate, triple) for triple in value):
        return False
    ranks = {spot: rank for spot, rank, _ in value}
    if len(ranks) != len(value) or spot_of(gate, start(gate)) not in ranks:
        return False
    return all(keeps_ranks(gate, ours, aim, ranks, triple) for triple in value)


def is_ranked_move(gate, value):
    """Is the value a triple of a spot, a rank and something else?"""
    if not is_tuple_of(3, value):
        return False
    spot, rank, _ = value
    return is_spot(gate, spot) and is_whole(rank) and rank >= 0


def keeps_ranks(gate, ours, aim, ranks, triple):
    """Does the triple of a plan with these ranks do what it must?"""
    spot, rank, move = triple
    if spot[0] == aim:
        return rank == 0 and move == "done"
    # The target is None if people cannot make the move, and no spot with a rank then.
    targets = [spot_of_move(gate, ours, spot, move), *foreign_spots(gate, ours, spot)]
    return all(target in ranks and ranks[target] < rank for target in targets)


def spot_of_move(gate, ours, spot, move):
    """The spot after the rest or after one of our steps, or None if people cannot make the move."""
    if move == "rest":
        return spot_rest(gate, spot)
    if not is_whole(move):
        return None
    for step, after in steps_in_kind(gate, spot):
        if step == move and gate.steps[step][1] in ours:
            return after
    return None


def foreign_spots(gate, ours, spot):
    """The spots to which the steps lead that are let and have none of our deeds."""
    return [after for step, after in steps_in_kind(gate, spot) if gate.steps[step][1] not in ours]


def own_spots(gate, ours, spot):
    """The spots to which the rest and the steps with our deeds lead that are let."""
    rested = spot_rest(gate, spot)
    found = [after for step, after in steps_in_kind(gate, spot) if gate.steps[step][1] in ours]
    return found if rested is None else [rested, *found]


def is_trap(gate, ours, aim, value):
    """Is the value a trap?"""
    check_leading(gate, ours, aim)
    if not isinstance(value, tuple) or not all(is_spot(gate, spot) for spot in value):
        return False
    spots = set(value)
    if spot_of(gate, start(gate)) not in spots:
        return False
    for spot in value:
        if spot[0] == aim:
            return False
        # Others lead on within the trap, or people cannot lead out of it.
        kept = [after in spots for after in own_spots(gate, ours, spot)]
        if not all(kept) and not any([after in spots for after in foreign_spots(gate, ours, spot)]):
            return False
    return True


def plan(gate, ours, aim):
    """Some plan, or None if there is none."""
    check_leading(gate, ours, aim)
    spots, graph = graph_to(gate, aim)
    ranks, moves = ranked(gate, ours, aim, spots, graph)
    if ranks[0] is None:
        return None
    needed = needed_nodes(gate, ours, graph, moves)
    found = {spots[node]: (ranks[node], moves[node]) for node in needed}
    return tuple([(spot, *found[spot]) for spot in in_spot_order(gate, found)])


def trap(gate, ours, aim):
    """Some trap, or None if there is none."""
    check_leading(gate, ours, aim)
    spots, graph = graph_to(gate, aim)
    ranks, _ = ranked(gate, ours, aim, spots, graph)
    if ranks[0] is not None:
        return None
    return in_spot_order(gate, [spot for spot, rank in zip(spots, ranks) if rank is None])


def graph_to(gate, aim):
    """The spots to which moves lead from the first one, and their graph; from the aim no move is followed."""
    first = spot_of(gate, start(gate))
    return explored([first], lambda spot: [] if spot[0] == aim else edges_from(gate, spot))


def edges_from(gate, spot):
    """The moves from the spot as edges."""
    return [(after, 0, move) for move, after in moves_from(gate, spot)]


def is_ours(gate, ours, move):
    """Is the move the rest or a step with one of our deeds?"""
    return move == "rest" or gate.steps[move][1] in ours


def ranked(gate, ours, aim, spots, graph):
    """For each spot its rank and the move that people make there, or None and None if they may never get to the aim."""
    ranks = [0 if state == aim else None for state, _ in spots]
    moves = ["done" if state == aim else None for state, _ in spots]
    # How many steps of others lead to spots without a rank.
    threats = [len([move for _, _, move in edges if not is_ours(gate, ours, move)]) for edges in graph]
    arrivals = arrivals_of(graph)
    latest = [node for node, rank in enumerate(ranks) if rank == 0]
    rank = 0
    while latest:
        rank += 1
        touched = []
        for node in latest:
            for source, move in arrivals[node]:
                if not is_ours(gate, ours, move):
                    threats[source] -= 1
                elif moves[source] is None:
                    moves[source] = move
                touched.append(source)
        latest = []
        for node in touched:
            if ranks[node] is None and moves[node] is not None and threats[node] == 0:
                ranks[node] = rank
                latest.append(node)
    return ranks, moves


def arrivals_of(graph):
    """For each node the pairs of a node from which an edge leads to it and the mark of the edge."""
    arrivals = [[] for _ in graph]
    for node, edges in enumerate(graph):
        for target, _, mark in edges:
            arrivals[target].append((node, mark))
    return arrivals


def needed_nodes(gate, ours, graph, moves):
    """The nodes to which the moves of a plan and the steps of others lead from the first one."""
    needed = {}
    todo = [0]
    while todo:
        node = todo.pop()
        if node not in needed:
            needed[node] = True
            todo.extend([target for target, _, move in graph[node]
                         if move == moves[node] or not is_ours(gate, ours, move)])
    return list(needed)
