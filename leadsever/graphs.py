"""Graphs: dicts from each vertex to the list of those that it leads to."""


def depths(graph):
    """A dict from each vertex that leads to no circle to the length of its longest way."""
    sources = {vertex: [] for vertex in graph}
    for vertex in graph:
        for after in graph[vertex]:
            sources[after].append(vertex)
    left = {vertex: len(graph[vertex]) for vertex in graph}
    found = {vertex: 0 for vertex in graph if left[vertex] == 0}
    todo = list(found)
    while todo:
        vertex = todo.pop()
        for before in sources[vertex]:
            left[before] -= 1
            if left[before] == 0:
                found[before] = 1 + max([found[after] for after in graph[before]])
                todo.append(before)
    return found


def reached(graph, start):
    """A dict that has all vertices to which one or more steps lead from a vertex as its keys."""
    found = {}
    todo = [start]
    while todo:
        for after in graph[todo.pop()]:
            if after not in found:
                found[after] = True
                todo.append(after)
    return found
