"""Answers from graphs of hand spots, found by plain rounds of improvement: a slow second way for several points."""

from bellrest.fitting import watched
from bellrest.hands import first_hand_spot, hand_moves
from bellrest.watchers import label


def region_graph(gate, is_end=lambda state: False):
    """All hand spots to which moves lead, with their edges: triples of the target, the hours and the move."""
    first = first_hand_spot(gate, gate.ceilings)
    edges = {first: []}
    todo = [first]
    while todo:
        spot = todo.pop()
        if not is_end(spot[0]):
            edges[spot] = [(after, hours, move) for move, after, hours in hand_moves(gate, gate.ceilings, spot)]
        for after, _, _ in edges[spot]:
            if after not in edges:
                edges[after] = []
                todo.append(after)
    return first, edges


def leads_to(edges, ends):
    """All spots from which edges lead to one of the ends."""
    before = {spot: [] for spot in edges}
    for spot, found in edges.items():
        for after, _, _ in found:
            before[after].append(spot)
    reached, todo = set(ends), list(ends)
    while todo:
        for spot in before[todo.pop()]:
            if spot not in reached:
                reached.add(spot)
                todo.append(spot)
    return reached


def best_weights(edges, start, weigh, sign, kept):
    """The least (sign 1) or greatest (sign -1) weights from the start over the kept spots.

    Where the rounds do not come to an end, the weights are None: there is no greatest one.
    """
    best = {start: 0}
    for _ in range(len(edges) + 2):
        changed = False
        for spot in edges:
            if spot in best and spot in kept:
                for after, hours, move in edges[spot]:
                    weight = best[spot] + weigh(spot, after, hours, move)
                    if after in kept and (after not in best or sign * weight < sign * best[after]):
                        best[after] = weight
                        changed = True
        if not changed:
            return best
    return None


class SeenRegions:
    """The hand spots of a watched gate up to the last entry of the sight, and the entry at an index."""

    def __init__(self, gate, sight, index):
        self.joined = watched(gate, sight)
        self.index = index
        last = label(len(sight.entries))
        self.first, self.edges = region_graph(self.joined, lambda state: state.endswith("." + last))
        useful = leads_to(self.edges, [spot for spot in self.edges if spot[0].endswith("." + last)])
        self.sources = {spot for spot in self.edges for after, _, _ in self.edges[spot]
                        if after in useful and self.is_at(spot, index) and self.is_at(after, index + 1)}
        self.useful = useful

    def is_at(self, spot, count):
        return spot[0].endswith("." + label(count))

    def limits(self, weigh):
        """The least weights, and the greatest ones or None, at the spots where the entry is seen."""
        least = best_weights(self.edges, self.first, weigh, 1, self.useful)
        leading = leads_to(self.edges, self.sources) & self.useful
        greatest = best_weights(self.edges, self.first, weigh, -1, leading)
        return ({spot: least[spot] for spot in self.sources},
                None if greatest is None else {spot: greatest[spot] for spot in self.sources})

    def moment_span(self):
        least, greatest = self.limits(lambda spot, after, hours, move: hours)
        lows = [(hours, on_hour(spot)) for spot, hours in least.items()]
        low = min(lows, key=lambda edge: (edge[0], -edge[1]))
        if greatest is None:
            return low, None
        return low, max((hours, 1) if on_hour(spot) else (hours + 1, 0) for spot, hours in greatest.items())

    def how_many(self, deed):
        def weigh(spot, after, hours, move):
            counted = move != "rest" and self.joined.steps[move][1] == deed
            return 1 if counted and self.is_at(spot, self.index) and self.is_at(after, self.index) else 0
        least, greatest = self.limits(weigh)
        return min(least.values()), None if greatest is None else max(greatest.values())


def on_hour(spot):
    wholes, order = spot[1]
    return 1 if len(wholes) in order[0] else 0


def passages_told(gate, first, second, deed):
    """Whether the deed happens, for all passages between the other two."""
    _, edges = region_graph(gate)

    def name(move):
        return None if move == "rest" else gate.steps[move][1]

    todo = [(after, False) for found in edges.values() for after, _, move in found if name(move) == first]
    known, told = set(todo), set()
    while todo:
        spot, happened = todo.pop()
        for after, _, move in edges[spot]:
            if name(move) == second:
                told.add(happened)
            elif name(move) != first:
                place = (after, happened or name(move) == deed)
                if place not in known:
                    known.add(place)
                    todo.append(place)
    return told
