"""Paths in graphs whose edges have weights.

A graph is a list: at the index of each node stands the list of its edges, and an edge is a triple
of the node that it leads to, its weight and a mark. Weights are 0 and 1.
"""


def explored(starts, edges_of):
    """The nodes to which edges lead from the starts, and the graph; the starts are different and come first.

    edges_of is a function that gives the edges of a node, with nodes in place of their indexes.
    """
    nodes = list(starts)
    places = {node: place for place, node in enumerate(starts)}
    graph = []
    while len(graph) < len(nodes):
        edges = []
        for target, weight, mark in edges_of(nodes[len(graph)]):
            if target not in places:
                places[target] = len(nodes)
                nodes.append(target)
            edges.append((places[target], weight, mark))
        graph.append(edges)
    return nodes, graph


def least_weights(graph, starts):
    """For each node the least weight of a path from a start to it, or None if there is no path."""
    least = [None] * len(graph)
    weight = 0
    level = list(starts)
    while level:
        heavier = []
        while level:
            node = level.pop()
            if least[node] is None:
                least[node] = weight
                level.extend([target for target, more, _ in graph[node] if more == 0])
                heavier.extend([target for target, more, _ in graph[node] if more == 1])
        level = heavier
        weight += 1
    return least


def sources_of(graph):
    """For each node the nodes from which an edge leads to it."""
    sources = [[] for _ in graph]
    for node, edges in enumerate(graph):
        for target, _, _ in edges:
            sources[target].append(node)
    return sources


def leading_to(graph, ends):
    """The graph with only those edges from whose targets some path leads to one of the ends."""
    sources = sources_of(graph)
    leads = [False] * len(graph)
    todo = list(ends)
    while todo:
        node = todo.pop()
        if not leads[node]:
            leads[node] = True
            todo.extend(sources[node])
    return [[edge for edge in edges if leads[edge[0]]] for edges in graph]


def order_of_leaving(graph):
    """The nodes in the order in which a search that goes deep first leaves them."""
    order = []
    entered = [False] * len(graph)
    for root in range(len(graph)):
        stack = [] if entered[root] else [(root, 0)]
        entered[root] = True
        while stack:
            node, at = stack.pop()
            if at == len(graph[node]):
                order.append(node)
            else:
                stack.append((node, at + 1))
                target = graph[node][at][0]
                if not entered[target]:
                    entered[target] = True
                    stack.append((target, 0))
    return order


def components(graph):
    """The nodes in groups, each with a path from every one to every other; edges lead to the same or later groups."""
    sources = sources_of(graph)
    placed = [False] * len(graph)
    groups = []
    for root in reversed(order_of_leaving(graph)):
        group = []
        todo = [root]
        while todo:
            node = todo.pop()
            if not placed[node]:
                placed[node] = True
                group.append(node)
                todo.extend(sources[node])
        if group:
            groups.append(group)
    return groups


def group_numbers(graph, groups):
    """For each node the index of its group."""
    numbers = [0] * len(graph)
    for number, group in enumerate(groups):
        for node in group:
            numbers[node] = number
    return numbers


def heavy_loops(graph):
    """The edges of weight 1 that lie on loops, as pairs of their node and the edge itself."""
    numbers = group_numbers(graph, components(graph))
    return [(node, edge) for node, edges in enumerate(graph) for edge in edges
            if edge[1] == 1 and numbers[edge[0]] == numbers[node]]


def greatest_weights(graph, starts):
    """For each node the greatest weight of a path from a start to it, or None if there is no path.

    There are no loops with an edge of weight 1.
    """
    groups = components(graph)
    numbers = group_numbers(graph, groups)
    # Edges within a group have the weight 0. So all nodes of a group have the same weight.
    greatest = [-1] * len(groups)
    for start in starts:
        greatest[numbers[start]] = 0
    for number, group in enumerate(groups):
        for node in group:
            for target, more, _ in graph[node]:
                if greatest[number] >= 0:
                    greatest[numbers[target]] = max(greatest[numbers[target]], greatest[number] + more)
    return [None if greatest[number] < 0 else greatest[number] for number in numbers]


def exact_edges(graph, weights):
    """The graph with only those edges whose weight is the difference of the weights of their nodes."""
    return [[edge for edge in edges if weights[node] is not None and weights[edge[0]] == weights[node] + edge[1]]
            for node, edges in enumerate(graph)]


def marks_between(graph, start, ends):
    """The marks of a path with the fewest edges from the start to one of the ends, and that end; there is one."""
    wanted = {end: True for end in ends}
    arrivals = {start: None}
    queue = [start]
    at = 0
    node = start
    while node not in wanted:
        for target, _, mark in graph[node]:
            if target not in arrivals:
                arrivals[target] = (node, mark)
                queue.append(target)
        at += 1
        node = queue[at]
    return marks_back(arrivals, node), node


def marks_back(arrivals, node):
    """The marks of the path to the node. Arrivals have for each node the one before it and the mark, or None."""
    marks = []
    arrival = arrivals[node]
    while arrival is not None:
        before, mark = arrival
        marks.append(mark)
        arrival = arrivals[before]
    return list(reversed(marks))
