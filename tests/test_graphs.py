"""Helpers of points 63 to 67: paths in graphs with weights."""

import unittest

from bellrest.graphs import (
    components, exact_edges, greatest_weights, group_numbers, heavy_loops, leading_to, least_weights, marks_between)
from helpers import seeded


def random_graph(chance, nodes, edges):
    graph = [[] for _ in range(nodes)]
    for number in range(edges):
        graph[chance.randrange(nodes)].append((chance.randrange(nodes), chance.randint(0, 1), number))
    return graph


def walks_to(graph, starts, rounds, better):
    """The best weights of paths with at most so many edges, one round after the other."""
    best = [0 if node in starts else None for node in range(len(graph))]
    for _ in range(rounds):
        for node, edges in enumerate(graph):
            for target, more, _ in edges:
                if best[node] is not None and (best[target] is None or better(best[node] + more, best[target])):
                    best[target] = best[node] + more
    return best


def reaches(graph, node):
    found, todo = set(), [node]
    while todo:
        one = todo.pop()
        if one not in found:
            found.add(one)
            todo.extend(target for target, _, _ in graph[one])
    return found


class TestGraphs(unittest.TestCase):
    def setUp(self):
        chance = seeded("graphs")
        self.graphs = [random_graph(chance, nodes, chance.randint(0, 2 * nodes)) for nodes in [1, 2, 3, 4, 6, 8, 12] * 60]

    def test_least(self):
        for graph in self.graphs:
            for starts in ([0], [0, len(graph) - 1]):
                expected = walks_to(graph, starts, len(graph), lambda one, other: one < other)
                self.assertEqual(least_weights(graph, starts), expected)

    def test_components(self):
        for graph in self.graphs:
            groups = components(graph)
            self.assertEqual(sorted(node for group in groups for node in group), list(range(len(graph))))
            numbers = group_numbers(graph, groups)
            reach = [reaches(graph, node) for node in range(len(graph))]
            for node, edges in enumerate(graph):
                for other in range(len(graph)):
                    both = other in reach[node] and node in reach[other]
                    self.assertEqual(numbers[node] == numbers[other], both)
                self.assertTrue(all(numbers[target] >= numbers[node] for target, _, _ in edges))

    def test_leading(self):
        for graph in self.graphs:
            kept = leading_to(graph, [len(graph) - 1])
            for node, edges in enumerate(graph):
                self.assertEqual(kept[node], [edge for edge in edges if len(graph) - 1 in reaches(graph, edge[0])])

    def test_loops_and_greatest(self):
        told = [0, 0]
        for graph in self.graphs:
            loops = heavy_loops(graph)
            expected = [(node, edge) for node, edges in enumerate(graph) for edge in edges
                        if edge[1] == 1 and node in reaches(graph, edge[0])]
            self.assertEqual(loops, expected)
            told[not loops] += 1
            if not loops:
                for starts in ([0], [0, len(graph) - 1]):
                    best = walks_to(graph, starts, len(graph), lambda one, other: one > other)
                    self.assertEqual(greatest_weights(graph, starts), best)
        self.assertGreater(min(told), 50)

    def test_marks(self):
        for graph in self.graphs:
            for weights in (least_weights(graph, [0]), greatest_weights(graph, [0])):
                exact = exact_edges(graph, weights)
                reached = sorted(reaches(graph, 0))
                for end in reached if weights == least_weights(graph, [0]) or not heavy_loops(graph) else ():
                    marks, last = marks_between(exact, 0, [end])
                    self.assertEqual(last, end)
                    self.check_path(graph, 0, marks, end, weights[end])
                marks, last = marks_between(graph, 0, reached[-1:] + [0])
                self.assertEqual((marks, last), ([], 0))

    def check_path(self, graph, node, marks, end, weight):
        total = 0
        for mark in marks:
            (edge,) = [edge for edge in graph[node] if edge[2] == mark]
            node, total = edge[0], total + edge[1]
        self.assertEqual((node, total), (end, weight))

    def test_fewest_edges(self):
        graph = [[(1, 0, "a"), (2, 1, "b")], [(2, 0, "c")], [(3, 0, "d")], []]
        self.assertEqual(marks_between(graph, 0, [3]), (["b", "d"], 3))
        self.assertEqual(marks_between(graph, 0, [3, 1]), (["a"], 1))

    def test_long_chain(self):
        graph = [[(node + 1, 1, node)] for node in range(20000)] + [[]]
        self.assertEqual(least_weights(graph, [0])[-1], 20000)
        self.assertEqual(greatest_weights(graph, [0])[-1], 20000)
        self.assertEqual(len(components(graph)), 20001)


if __name__ == "__main__":
    unittest.main()
