"""Walks that go round: the shortest ones by sources, and where the first round of a walk is."""

from heapq import heappop, heappush

from leadsever.graphs import depths
from leadsever.trees import joints_found, turning_size
from leadsever.ways import MOST_STEPS, START


def round_steps(ways):
    """The fronts of the redirects of a short walk that meets some node for the second time, or None."""
    found = _spread(ways, START, MOST_STEPS)
    round_about = _on_circles(ways, found)
    best = None
    limit = MOST_STEPS
    # A circle has one redirect at least, so a node that is as far away as the best walk makes none better.
    for node in found:
        if node in round_about and found[node][0] < limit:
            circle = _spread(ways, node, limit - found[node][0])
            if node in circle:
                limit = found[node][0] + circle[node][0] - 1
                best = [*_parts_to(found, START, node), *_parts_to(circle, node, node)]
    return None if best is None else ways.taken(best)


def _spread(ways, start, limit):
    """A dict from the nodes behind one to tuples (cost, node before, parts), the nearest ones first.

    It has the node itself, if a circle leads to it, and ends then.
    """
    found = {}
    queue = []
    pushed = 0
    todo = [(start, 0)]
    while todo:
        node, spent = todo.pop()
        for after, cost, parts in ways.edges(node):
            if after not in found and spent + cost <= limit:
                pushed += 1
                heappush(queue, (spent + cost, pushed, after, node, parts))
        while queue and not todo and start not in found:
            cost, _, after, before, parts = heappop(queue)
            if after not in found:
                found[after] = (cost, before, parts)
                todo.append((after, cost))
    return found


def _parts_to(found, start, node):
    """The parts of walks by which a node is come to from the one with which a spread began."""
    rows = []
    while node != start or not rows:
        _, before, parts = found[node]
        rows.append(parts)
        node = before
    return [part for parts in reversed(rows) for part in parts]


def _on_circles(ways, nodes):
    """A dict that has those nodes as its keys that are led to by circles, and lead to some."""
    graph = {}
    for node in nodes:
        graph[node] = [edge[0] for edge in ways.edges(node) if edge[0] in nodes]
    turned = {node: [] for node in nodes}
    for node in graph:
        for after in graph[node]:
            turned[after].append(node)
    ahead, behind = depths(graph), depths(turned)
    return {node: True for node in nodes if node not in ahead and node not in behind}


def first_round(walk, tables):
    """The round of a walk with the least last place, for the joints of some tables, or None."""
    places = joints_found(tables)
    spares = []
    for address in walk:
        size = turning_size(address, places)
        spares.append(None if size is None else len(address) - size)
    for j in range(1, len(walk)):
        found = _round_to(walk, spares, j)
        if found is not None:
            return found
    return None


def _round_to(walk, spares, j):
    """A round of a walk with a last place, if there is none with an earlier one; or None."""
    last = walk[j]
    least = spares[j - 1]
    for i in reversed(range(j)):
        if walk[i] == last:
            return (i, j, len(last))
        # No step from i on looks at the words that are spare in all of them.
        least = None if least is None or spares[i] is None else min(least, spares[i])
        if least is not None and len(last) >= len(walk[i]):
            size = len(walk[i]) - least
            if last[:size] == walk[i][:size]:
                return (i, j, size)
    return None
