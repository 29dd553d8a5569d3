"""Walks that go round: the shortest ones by sources, and where the first round of a walk is."""

from heapq import heappop, heappush

from leadsever.graphs import depths
from leadsever.trees import joints_found, turning_size
from leadsever.ways import START

# The sides of a walk into a round, see Rounds.
FIRST = "first"
AGAIN = "again"
DOWN = "down"
# The state in which no more words are shared.
DONE = ((), (), ())


class Rounds:
    """The search for the shortest walk into a round, with so many redirects at most.

    The low head of a round is that of its heads with the fewest words behind it. A round may begin
    long ahead of it, at an address whose first words, the shared ones, are worked off until the low
    head is met; it ends as soon as these words stand in front again. So they are put in front
    twice, on the side FIRST by a walk from the address of the ways, on the side AGAIN by one from
    the low head, and are worked off once, on the side DOWN. (A walk that meets the low head twice
    may be nearly twice as long as needed.)

    The three sides are found together, from the last shared word to the first. A state (first,
    again, joint) has the starts that are in front of the words found so far, on the sides FIRST
    and AGAIN, and the joint to which reading what is still to be found comes on the side DOWN.
    """

    def __init__(self, ways, most):
        self._ways = ways
        self._most = most
        self._found = _spread(ways, START, most)
        # By states: the least costs known, and, for those settled, tuples (state before, side, parts);
        # for those to begin with, tuples (None, low head, its nodes on the sides FIRST and AGAIN).
        self._costs = {}
        self._made = {}
        self._queue = []
        self._pushed = 0
        # What _deeper returns, by starts, and what _befores returns, by words and joints.
        self._fronts = {}
        self._joints = {}

    def steps(self):
        """The fronts of the redirects of the shortest walk into a round, or None."""
        for node in _on_circles(self._ways, self._found):
            if self._ways.is_head(node) and self._found[node][0] < self._most:
                self._begin(node)
        while self._queue:
            _, _, cost, state, made = heappop(self._queue)
            if state not in self._made:
                self._made[state] = made
                if state == DONE:
                    return self._ways.taken(self._parts())
                self._go_on(state, cost)
        return None

    def _begin(self, low):
        """Begins with all pairs of nodes from which a low head is met."""
        circle = self._circle(low)
        if low in circle:
            # A walk that meets the low head twice has a round, so the shortest one is no longer.
            self._most = min(self._most, self._found[low][0] + circle[low][0])
        meetings = self._ways.meetings(low)
        for first, start in meetings:
            if first in self._found:
                for again, other in meetings:
                    if again in circle:
                        cost = self._found[first][0] + circle[again][0]
                        self._push(cost, (start, other, low[0]), (None, low, (first, again)))

    def _circle(self, low):
        """What is behind a low head, as far as walks by way of it may be short enough."""
        return _spread(self._ways, low, self._most - self._found[low][0])

    def _push(self, cost, state, made):
        """Lets a state wait until it is its turn, if a walk by way of it may be short enough."""
        first, again, joint = state
        one = self._ways.cost_of_reading(first, joint)
        other = self._ways.cost_of_reading(again, joint)
        if one is None or other is None:
            return
        # What is left to do on either side reads its start as far as to the joint, with what is left DOWN.
        least = cost + max(one, other)
        if least <= self._most and (state not in self._costs or cost < self._costs[state]):
            self._costs[state] = cost
            # The number keeps states of one cost from being compared.
            self._pushed += 1
            heappush(self._queue, (least, self._pushed, cost, state, made))

    def _go_on(self, state, cost):
        """Puts fronts in place of the last words of a state, or shares the last word if it is the same."""
        first, again, joint = state
        for front, more, parts in self._deeper(first):
            self._push(cost + more, (front, again, joint), (state, FIRST, parts))
        for front, more, parts in self._deeper(again):
            self._push(cost + more, (first, front, joint), (state, AGAIN, parts))
        if first and again and first[-1] == again[-1]:
            for before, more, parts in self._befores(first[-1], joint):
                self._push(cost + more, (first[:-1], again[:-1], before), (state, DOWN, parts))

    def _deeper(self, start):
        """The list of tuples (front, cost, parts) for what may come in place of the last word of a start."""
        if start not in self._fronts:
            found = []
            for node, cost, parts in self._ways.edges(start):
                if self._ways.is_head(node):
                    for front, more, taken in self._ways.edges(node):
                        found.append((front, cost + more, (*parts, *taken)))
            self._fronts[start] = found
        return self._fronts[start]

    def _befores(self, word, joint):
        """The list of tuples (joint before, cost, parts) for where reading a word comes to a joint."""
        if word not in self._joints:
            found = {}
            for before, after, cost, parts in self._ways.readings(word):
                if after not in found:
                    found[after] = []
                found[after].append((before, cost, parts))
            self._joints[word] = found
        return self._joints[word].get(joint, [])

    def _parts(self):
        """The parts of the shortest walk, in sequence."""
        sides = {FIRST: [], AGAIN: [], DOWN: []}
        before, side, parts = self._made[DONE]
        while before is not None:
            sides[side].append(parts)
            before, side, parts = self._made[before]
        low, (first, again) = side, parts
        # What was found last is in front: it was put there last, and is worked off first.
        rows = [_parts_to(self._found, START, first), *list(reversed(sides[FIRST])), *sides[DOWN],
                _parts_to(self._circle(low), low, again), *list(reversed(sides[AGAIN]))]
        return [part for row in rows for part in row]


def _spread(ways, start, limit):
    """A dict from the nodes behind one to tuples (cost, node before, parts), the nearest ones first.

    It has the node itself, if a circle leads to it, and ends then.
    """
    found = {}
    queue = []
    pushed = 0
    todo = [(start, 0)]
    while todo:
        node, spent = todo.pop()
        for after, cost, parts in ways.edges(node):
            if after not in found and spent + cost <= limit:
                pushed += 1
                heappush(queue, (spent + cost, pushed, after, node, parts))
        while queue and not todo and start not in found:
            cost, _, after, before, parts = heappop(queue)
            if after not in found:
                found[after] = (cost, before, parts)
                todo.append((after, cost))
    return found


def _parts_to(found, start, node):
    """The parts of walks by which a node is come to from the one with which a spread began."""
    rows = []
    while node != start or not rows:
        _, before, parts = found[node]
        rows.append(parts)
        node = before
    return [part for parts in reversed(rows) for part in parts]


def _on_circles(ways, nodes):
    """A dict that has those nodes as its keys that are led to by circles, and lead to some."""
    graph = {}
    for node in nodes:
        graph[node] = [edge[0] for edge in ways.edges(node) if edge[0] in nodes]
    turned = {node: [] for node in nodes}
    for node in graph:
        for after in graph[node]:
            turned[after].append(node)
    ahead, behind = depths(graph), depths(turned)
    return {node: True for node in nodes if node not in ahead and node not in behind}


def first_round(walk, tables):
    """The round of a walk with the least last place, for the joints of some tables, or None."""
    places = joints_found(tables)
    spares = []
    for address in walk:
        size = turning_size(address, places)
        spares.append(None if size is None else len(address) - size)
    for j in range(1, len(walk)):
        found = _round_to(walk, spares, j)
        if found is not None:
            return found
    return None


def _round_to(walk, spares, j):
    """A round of a walk with a last place, if there is none with an earlier one; or None."""
    last = walk[j]
    least = spares[j - 1]
    for i in reversed(range(j)):
        if walk[i] == last:
            return (i, j, len(last))
        # No step from i on looks at the words that are spare in all of them.
        least = None if least is None or spares[i] is None else min(least, spares[i])
        if least is not None and len(last) >= len(walk[i]):
            size = len(walk[i]) - least
            if last[:size] == walk[i][:size]:
                return (i, j, size)
    return None
