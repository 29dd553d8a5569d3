"""The shortest walks by sources from an address, to its ends and into rounds, without trying all walks.

A walk is taken apart by what is read: nodes are starts, which are beginnings of fronts and are read
from the joint () on, heads, and whole addresses. The address is the front of a head of its own, START.
"""

from heapq import heappop, heappush

from leadsever.ends import front_behind
from leadsever.heads import redirects
from leadsever.lasts import shown_kind
from leadsever.trees import BEHIND

# Where the heads have joints, this one has none.
START = (None, "$")
# The node for a front with nothing behind it is a tuple of this and the front.
WHOLE = "$"


class Ways:
    """The least costs, in redirects, of what walks by sources do, as far as they are at most so many.

    All words of the address are words of the heads: the strange word stands for none of them.

    Parts of walks are settled by their costs, the least ones first:
    ("read", start, joint): reading the words of a start comes to a joint;
    ("back", head, joint): a walk over a head comes back to a joint;
    ("stop", start, kind, front): in reading the words of a start, a walk comes to an end;
    ("end", head, kind, front): a walk over a head comes to an end. Two ends are enough for each
    start and head, as at most one of them fits an heir.
    """

    def __init__(self, heads, address, most):
        self._heads = heads
        self._most = most
        self._places = {joint: True for joint in heads.joints}
        self._fronts = {head: redirects(heads.answers(head)) for head in heads.heads()}
        self._fronts[START] = [address]
        # By starts: the words that follow them in fronts, and the heads of which they are fronts.
        self._nexts = {}
        self._users = {}
        self._find_starts()
        # By starts: the costs of the joints. By heads: those of the joints, and those that wait.
        self._reads = {start: {} for start in self._nexts}
        self._backs = {head: {} for head in self._fronts}
        self._waiting = {head: [] for head in self._fronts}
        # By starts and heads: the costs of their ends.
        self._ends = {node: {} for node in [*self._nexts, *self._fronts]}
        # By parts of walks: the least costs known, and, for those settled, the parts, and redirects
        # ("take", front), of which they are made.
        self._costs = {}
        self._made = {}
        self._queue = []
        self._pushed = 0
        self._settle_all()

    def _find_starts(self):
        """Finds all beginnings of fronts, what follows them, and whose fronts they are."""
        self._nexts[()] = {}
        for head in self._fronts:
            for front in self._fronts[head]:
                for size in range(len(front)):
                    if front[:size + 1] not in self._nexts:
                        self._nexts[front[:size + 1]] = {}
                    self._nexts[front[:size]][front[size]] = True
                if front not in self._users:
                    self._users[front] = []
                self._users[front].append(head)

    def _settle_all(self):
        """Settles all parts of walks that are short enough."""
        self._push(0, ("read", (), ()), ())
        for head in self._heads.heads():
            for kind, front in self._heads.answers(head):
                if kind != ("to",):
                    self._push(0, ("end", head, shown_kind(kind), front), ())
        while self._queue:
            cost, _, part, made = heappop(self._queue)
            if part not in self._made and self._is_wanted(part):
                self._made[part] = made
                self._settle(part, cost)

    def _push(self, cost, part, made):
        """Lets a part of walks wait until it is its turn."""
        if cost <= self._most and (part not in self._costs or cost < self._costs[part]):
            self._costs[part] = cost
            # The number keeps parts of one cost from being compared.
            self._pushed += 1
            heappush(self._queue, (cost, self._pushed, part, made))

    def _is_wanted(self, part):
        """Whether a part is no third end."""
        return part[0] in ("read", "back") or len(self._ends[part[1]]) < 2

    def _settle(self, part, cost):
        """Takes it that a part has a cost, and looks at what it is a part of."""
        node = part[1]
        if part[0] == "read":
            self._reads[node][part[2]] = cost
            self._settle_read(part, cost)
        elif part[0] == "back":
            self._backs[node][part[2]] = cost
            for start, word, spent in self._waiting[node]:
                self._push_read(start, word, node, part[2], spent + cost)
        elif part[0] == "stop":
            self._ends[node][part[2:]] = cost
            self._settle_stop(part, cost)
        else:
            self._ends[node][part[2:]] = cost
            for start, word, spent in self._waiting[node]:
                self._push_end(start, word, node, part[2:], spent + cost)

    def _settle_read(self, part, cost):
        """Goes on from a joint to which reading a start comes."""
        start, joint = part[1:]
        for word in self._nexts[start]:
            longer = (*joint, word)
            if longer in self._places:
                self._push(cost, ("read", (*start, word), longer), (part,))
            else:
                self._wait(self._heads.head(longer), start, word, cost)
        behind = False
        for head in self._users.get(start, []):
            if head[1] == BEHIND:
                behind = True
            else:
                self._push(cost + 1, ("back", head, joint), (("take", start), part))
        if behind:
            self._wait((joint, BEHIND), start, BEHIND, cost)

    def _wait(self, head, start, word, cost):
        """Takes it that a walk over a head is made in reading a word behind a start."""
        self._waiting[head].append((start, word, cost))
        for joint in self._backs[head]:
            self._push_read(start, word, head, joint, cost + self._backs[head][joint])
        for end in self._ends[head]:
            self._push_end(start, word, head, end, cost + self._ends[head][end])

    def _push_read(self, start, word, head, joint, cost):
        """Reading a word behind a start comes to a joint by way of a head."""
        self._push(cost, ("read", (*start, word), joint), (("read", start, head[0]), ("back", head, joint)))

    def _push_end(self, start, word, head, end, cost):
        """Reading a word behind a start comes to an end by way of a head."""
        made = (("read", start, head[0]), ("end", head, *end))
        if word == BEHIND:
            for user in self._users[start]:
                if user[1] == BEHIND:
                    self._push_taken(user, start, end, made, cost)
        else:
            self._push(cost, ("stop", (*start, word), *end), made)

    def _settle_stop(self, part, cost):
        """Goes on from an end to which a walk comes in reading a start."""
        start, kind, front = part[1:]
        for word in self._nexts[start]:
            self._push(cost, ("stop", (*start, word), kind, front_behind(kind, front, (word,))), (part,))
        for head in self._users.get(start, []):
            self._push_taken(head, start, (kind, front), (part,), cost)

    def _push_taken(self, head, front, end, made, cost):
        """A walk over a head comes to an end behind the redirect with a front."""
        if head == START:
            self._push(cost, ("end", head, *end), made)
        else:
            self._push(cost + 1, ("end", head, *end), (("take", front), *made))

    def ends(self):
        """The two ends (kind, front) to which the shortest walks from the address come, by their costs."""
        return list(self._ends[START])

    def end_steps(self, end):
        """The fronts of the redirects by which the shortest walk from the address comes to an end."""
        return self.taken([("end", START, *end)])

    def taken(self, parts):
        """The fronts of the redirects of which parts of walks are made, in sequence."""
        found = []
        todo = list(reversed(parts))
        while todo:
            part = todo.pop()
            if part[0] == "take":
                found.append(part[1])
            else:
                todo.extend(list(reversed(self._made[part])))
        return found

    def is_head(self, node):
        """Whether a node is a head."""
        return node in self._fronts

    def meetings(self, head):
        """The list of tuples (node, start) for the nodes that lead to a head in reading a word behind a start."""
        found = []
        for start, word, _ in self._waiting[head]:
            found.append(((WHOLE, start) if word == BEHIND else (*start, word), start))
        return found

    def cost_of_reading(self, start, joint):
        """The least cost for coming to a joint by reading a start, or None."""
        return self._reads[start].get(joint)

    def readings(self, word):
        """The list of tuples (joint, joint, cost, parts) for what reading a word leads from, and to."""
        found = []
        for joint in self._places:
            longer = (*joint, word)
            if longer in self._places:
                found.append((joint, longer, 0, ()))
            else:
                head = self._heads.head(longer)
                for back in self._backs[head]:
                    found.append((joint, back, self._backs[head][back], (("back", head, back),)))
        return found

    def edges(self, node):
        """The list of tuples (node, cost, parts): what comes next behind a head, a start or a whole address."""
        if node in self._fronts:
            return self._edges_of_head(node)
        found = []
        if node and node[0] == WHOLE:
            found.append((node[1], 0, ()))
            for joint in self._reads[node[1]]:
                found.append(((joint, BEHIND), self._reads[node[1]][joint], (("read", node[1], joint),)))
        elif node:
            start = node[:-1]
            found.append((start, 0, ()))
            for joint in self._reads[start]:
                longer = (*joint, node[-1])
                if longer not in self._places:
                    found.append((self._heads.head(longer), self._reads[start][joint], (("read", start, joint),)))
        return found

    def _edges_of_head(self, head):
        """The edges from a head to its fronts, which are whole addresses if nothing is behind."""
        cost = 0 if head == START else 1
        found = []
        for front in self._fronts[head]:
            made = () if head == START else (("take", front),)
            found.append(((WHOLE, front) if head[1] == BEHIND else front, cost, made))
        return found
