"""The heads of sources, and what can be told of all walks by them."""

from heapq import heappop, heappush

from leadsever.courses import Course
from leadsever.ends import end_of, front_behind, kind_and_front
from leadsever.graphs import depths, reached
from leadsever.readings import Reading
from leadsever.trees import BEHIND, joints_found, turning_size, words_of
from leadsever.words import address_key, beginnings, strange_word


class Heads:
    """What may come of the heads of sources."""

    def __init__(self, sources):
        tables = [table for table, _ in sources]
        words = words_of(tables)
        self._first = tables[0]
        self._others = [(table, max(age, 1)) for table, age in sources[1:]]
        self._telling = _telling(self._others)
        self._places = joints_found(tables)
        self._joints = sorted(list(self._places), key=address_key)
        self._strange = strange_word(words)
        self._words = sorted([*words, self._strange])
        self._heads = _all_heads(self._joints, self._words)
        self._known = {head: True for head in self._heads}
        # Found when they are first asked for.
        self._allowed = {}
        self._reading = None
        self._graph = None
        self._depths = None

    @property
    def joints(self):
        """The list of the joints of the tables, in order."""
        return list(self._joints)

    @property
    def words(self):
        """The list of the words in the rules and the strange word for them, ascending."""
        return list(self._words)

    def words_with(self, more):
        """The list of the words in the rules, of some more words and of the strange word for all these, ascending."""
        found = {word: True for word in [*self._words, *more]}
        if self._strange in more:
            found[strange_word(list(found))] = True
        return sorted(list(found))

    def heads(self):
        """The list of all heads of addresses of these words."""
        return list(self._heads)

    def head(self, address):
        """The head of an address."""
        size = turning_size(address, self._places)
        if size is None:
            return (tuple(address), BEHIND)
        return self._known_head((address[:size - 1], address[size - 1]))

    def _known_head(self, head):
        """A head with the strange word in place of one that is in no rule."""
        joint, word = tuple(head[0]), head[1]
        return (joint, word) if (joint, word) in self._known else (joint, self._strange)

    def answers(self, head):
        """The list of the tuples (kind, front) for the allowed answers to a head."""
        key = (tuple(head[0]), head[1])
        if key not in self._allowed:
            self._allowed[key] = self._find_answers(key[0] if key[1] == BEHIND else (*key[0], key[1]))
        return list(self._allowed[key])

    def _find_answers(self, address):
        """The list of the tuples (kind, front) for the allowed answers to an address of a joint and a word."""
        found = [kind_and_front(self._first.answer(address))]
        told = {}
        for key in [("exact", address), *[("open", start) for start in beginnings(address)]]:
            for index in self._telling.get(key, []):
                told[index] = True
        for index in sorted(list(told)):
            table, least = self._others[index]
            answer = table.answer(address)
            if answer[0] == "to" and answer[2] >= least:
                row = kind_and_front(answer)
                if row not in found:
                    found.append(row)
        return found

    def _read_all(self):
        """Finds what comes of all heads, unless this is known."""
        if self._reading is not None:
            return
        fronts = {head: redirects(self.answers(head)) for head in self._heads}
        self._reading = Reading(fronts, self._places)
        self._graph = self._reading.graph()
        self._depths = depths(self._graph)

    def back(self, head):
        """The list of the joints to which walks over a head come back, in order."""
        self._read_all()
        return sorted(self._reading.backs(self._known_head(head)), key=address_key)

    def met(self, head):
        """The list of the heads of the addresses behind the first one in walks over a head."""
        self._read_all()
        found = reached(self._graph, self._known_head(head))
        return [each for each in self._heads if each in found]

    def is_bounded(self, head):
        """Whether the walks over a head have a bound."""
        return self.height(head) is not None

    def height(self, head):
        """A number that is greater for a head than for all that are met over it, or None."""
        self._read_all()
        return self._depths.get(self._known_head(head))


def _telling(others):
    """A dict from sorts and places to the numbers of those tables whose redirects there last long enough."""
    found = {}
    for index, (table, least) in enumerate(others):
        for sort, place, answer in table.rules:
            if answer[0] == "to" and answer[2] >= least:
                key = (sort, place)
                if key not in found:
                    found[key] = []
                found[key].append(index)
    return found


def _all_heads(places, words):
    """The list of all heads of addresses of some words, for the joints in order."""
    known = {joint: True for joint in places}
    found = []
    for joint in places:
        for word in words:
            if (*joint, word) not in known:
                found.append((joint, word))
        found.append((joint, BEHIND))
    return found


def redirects(answers):
    """The list of the fronts of those answers to a head that are redirects."""
    return [front for kind, front in answers if kind == ("to",)]


def unbounded(sources):
    """The least address from which walks by sources have no bound, or None."""
    heads = Heads(sources)
    places = {joint: True for joint in heads.joints}
    passed = {}
    # Of all addresses that may come to a joint, the least one stands for all: with the same words
    # behind them, it stays the least.
    queue = [(0, (), (True, ()))]
    while queue:
        size, address, (bounded, joint) = heappop(queue)
        if not bounded or not heads.is_bounded((joint, BEHIND)):
            return address
        if joint not in passed:
            passed[joint] = True
            for word in heads.words:
                for row in _read_word(heads, places, joint, word):
                    heappush(queue, (size + 1, (*address, word), row))
    return None


def _read_word(heads, places, joint, word):
    """The list of what reading a word at a joint may come to: (True, joint), or (False, ())."""
    longer = (*joint, word)
    if longer in places:
        return [(True, longer)]
    if not heads.is_bounded((joint, word)):
        return [(False, ())]
    return [(True, back) for back in heads.back((joint, word))]


def lands(table, address):
    """The end of the walk by a table, and how many redirects it takes; or None."""
    course = Course(table)
    stand, steps = ("at", ()), 0
    for index, word in enumerate([*address, BEHIND]):
        stand, more = course.after(stand, word)
        steps += more
        if stand[0] == "end":
            kind, front = stand[1:]
            return (end_of(kind, front_behind(kind, front, address[index + 1:])), steps)
        if stand[0] == "never":
            return None
    return None


def leads_differ(first, second):
    """The least address for which two tables do not lead alike, or None."""
    words = words_of([first, second])
    words = sorted([*words, strange_word(words)])
    one, other = Course(first), Course(second)
    # The least address stands for all that come to a pair of stands. The search ends: where only
    # one has come to an end, no more words are read unless the end is that of the other one here.
    start = (("at", ()), ("at", ()))
    passed = {start: True}
    queue = [((), start)]
    while queue:
        longer = []
        for address, (here, there) in queue:
            if _end_at(one, here) != _end_at(other, there):
                return address
            if here[0] == "at" or there[0] == "at":
                for word in words:
                    pair = (one.after(here, word)[0], other.after(there, word)[0])
                    if pair not in passed:
                        passed[pair] = True
                        longer.append(((*address, word), pair))
        queue = longer
    return None


def _end_at(course, stand):
    """The stand behind the last word of an address: an end, or never."""
    return course.after(stand, BEHIND)[0]
