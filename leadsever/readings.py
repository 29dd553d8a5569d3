"""What reading the fronts of redirects comes to, whatever words are behind them."""

from leadsever.trees import BEHIND


class Reading:
    """The least backs that go with some fronts: a dict from all heads to lists of fronts.

    Sets of joints are kept as integers, with a bit for each joint: with many tables, reading
    comes to the same set again and again, and what it comes to next is found once for each. A
    start is a beginning of a front, a step a set of joints to which it comes, with a word.
    """

    def __init__(self, fronts, places):
        self._fronts = fronts
        self._joints = list(places)
        self._bits = {joint: 1 << at for at, joint in enumerate(self._joints)}
        self._backs = {head: 0 for head in fronts}
        self._starts = _all_starts(fronts)
        self._come = {start: 0 for start in self._starts}
        self._longer = {start: [] for start in [(), *self._starts]}
        for start in self._starts:
            self._longer[start[:-1]].append(start)
        self._users = _users_of(fronts)
        # By heads the steps in which they are met, and by steps the starts that are read so.
        self._steps = {head: {} for head in fronts}
        self._readers = {}
        self._read_all()

    def _read_all(self):
        """Reads all starts, and again what hangs on a head, until there are no more backs."""
        self._come[()] = self._bits[()]
        self._use((), {})
        todo = {start: True for start in self._starts}
        while todo:
            grown = self._read_starts(todo)
            todo = {}
            for head in grown:
                for step in self._steps[head]:
                    for start in self._readers[step]:
                        todo[start] = True

    def _read_starts(self, todo):
        """Reads some starts, and what hangs on them; returns a dict of the heads that have more backs now."""
        known = {}
        grown = {}
        size = 0
        while todo:
            size += 1
            longer = {}
            for start in todo:
                if len(start) > size:
                    longer[start] = True
                elif self._read(start, known):
                    self._use(start, grown)
                    for each in self._longer[start]:
                        longer[each] = True
            todo = longer
        return grown

    def _read(self, start, known):
        """Reads the last word of a start; returns whether this comes to more joints than before."""
        step = (self._come[start[:-1]], start[-1])
        if step not in known:
            known[step] = self._read_word(step[0], step[1])
        if step not in self._readers:
            self._readers[step] = {}
            for head in self._met(step[0], step[1]):
                self._steps[head][step] = True
        self._readers[step][start] = True
        more = known[step] != self._come[start]
        self._come[start] = known[step]
        return more

    def _use(self, start, grown):
        """Adds the joints to which a start comes to the backs of the heads whose front it is."""
        for head in self._users.get(start, []):
            found = self._backs[head] | self._come[start]
            if found != self._backs[head]:
                self._backs[head] = found
                grown[head] = True

    def _read_word(self, places, word):
        """The set of joints to which reading a word at the joints of a set comes."""
        found = 0
        for joint in self._members(places):
            longer = (*joint, word)
            found = found | (self._bits[longer] if longer in self._bits else self._backs[(joint, word)])
        return found

    def _members(self, places):
        """The list of the joints in a set."""
        found = []
        while places:
            lowest = places & -places
            found.append(self._joints[lowest.bit_length() - 1])
            places = places - lowest
        return found

    def backs(self, head):
        """The list of the joints to which walks over a head come back."""
        return self._members(self._backs[head])

    def graph(self):
        """A graph in which each head leads, by some steps, to all heads that are met over it.

        Between them are the beginnings of the fronts, and the sets of joints with the word that
        is read there.
        """
        found = {(): []}
        for start in self._starts:
            step = (self._come[start[:-1]], start[-1])
            found[start] = [start[:-1], step]
            if step not in found:
                found[step] = self._met(step[0], step[1])
        for head in self._fronts:
            found[head] = list(self._fronts[head])
            if head[1] == BEHIND:
                for front in self._fronts[head]:
                    found[head].extend(self._met(self._come[front], BEHIND))
        return found

    def _met(self, places, word):
        """The list of the heads that are met in reading a word at the joints of a set."""
        return [(joint, word) for joint in self._members(places) if (*joint, word) not in self._bits]


def _users_of(fronts):
    """A dict from fronts to the lists of the heads that may come back by them."""
    found = {}
    for head in fronts:
        # Behind an address that ends with its joint, there are no words to come back to.
        if head[1] != BEHIND:
            for front in fronts[head]:
                if front not in found:
                    found[front] = []
                found[front].append(head)
    return found


def _all_starts(fronts):
    """The list of the beginnings of some fronts but (), each behind its own beginnings."""
    found = {}
    for head in fronts:
        for front in fronts[head]:
            for size in range(1, len(front) + 1):
                found[front[:size]] = True
    return list(found)
