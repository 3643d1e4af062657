"""The bare rows of a gate: deeds without moments."""

from bellrest.zonegraphs import zone_graph


class BareWalk:
    """Follows bare rows through the zones of a gate.

    A place is an ascending tuple of indexes of zones: those to which runs with a bare row lead. It
    is empty if the gate does not let the bare row.
    """

    def __init__(self, gate):
        _, graph = zone_graph(gate)
        self._edges = [[(gate.steps[step][1], target) for target, _, step in edges] for edges in graph]
        self._found = {}

    def start(self):
        """The place of the bare row without deeds."""
        return (0,)

    def after(self, place, deed):
        """The place after one more deed."""
        key = (place, deed)
        if key not in self._found:
            targets = [target for node in place for name, target in self._edges[node] if name == deed]
            self._found[key] = tuple(sorted(set(targets)))
        return self._found[key]
