"""Walks by one table, and the rounds of walks."""

from leadsever.tables import is_end
from leadsever.trees import joints_found, turning_size
from leadsever.words import begins, is_number_to


def is_round(value, walk, tables):
    """Whether any value is a round of a walk, for the joints of some tables."""
    if not isinstance(value, tuple) or len(value) != 3:
        return False
    i, j, n = value
    if not is_number_to(j, len(walk) - 1) or not is_number_to(i, j - 1):
        return False
    if not is_number_to(n, len(walk[i])):
        return False
    part = [tuple(address) for address in walk[i:j + 1]]
    if part[0] == part[-1] and n == len(part[0]):
        return True
    return _can_be_repeated(part, n, joints_found(tables))


def _can_be_repeated(part, size, places):
    """Whether a part of a walk hangs on its first front of so many words alone, and keeps it."""
    rest = part[0][size:]
    fronts = []
    for address in part:
        cut = len(address) - len(rest)
        if cut < 0 or address[cut:] != rest:
            return False
        fronts.append(address[:cut])
    for front in fronts[:-1]:
        if front in places:
            return False
    return begins(fronts[-1], fronts[0])


def walked(table, address, *, steps=1000):
    """The walk by a table from an address, its end, and its first round."""
    trail = Trail(table)
    found = trail.go_on(tuple(address))
    answer = table.answer(address)
    # A round with its last place at j is noticed ahead of the place 2 * j, see Trail.
    while found is None and not is_end(answer) and len(trail.walk) <= 2 * steps:
        found = trail.go_on(answer[1])
        answer = table.answer(answer[1])
    if found is not None:
        first = trail.first_round(found)
        if first[1] <= steps:
            return (trail.walk[:first[1] + 1], None, first)
    elif is_end(answer) and len(trail.walk) <= steps + 1:
        return (trail.walk, answer, None)
    return (trail.walk[:steps + 1], None, None)


class Trail:
    """A walk by one table, in which rounds are noticed.

    What a step looks at are the words up to the turning of its address; the words behind are
    spare. All rounds that a walk by one table has go on for ever, and the shortest of them have
    the same length, from the first one on. Such a round is noticed when an address comes again,
    or when a turning comes again while no step in between looked at what was spare at first. In
    a walk that goes round and grows, the latter is so for the step of the round with the fewest
    spare words: one round after it, which is less than two rounds after the first round began.
    """

    def __init__(self, table):
        self.walk = []
        self._places = joints_found([table])
        self._spares = []
        self._seen = {}
        # The places with fewer or as many spare words as all later ones, and by their turnings.
        self._lows = []
        self._low_at = {}

    def go_on(self, address):
        """Adds an address; returns the first and last place of a round that is noticed, or None."""
        place = len(self.walk)
        size = turning_size(address, self._places)
        self.walk.append(address)
        self._spares.append(None if size is None else len(address) - size)
        if address in self._seen:
            return (self._seen[address], place)
        self._seen[address] = place
        self._forget_lows(self._spares[place])
        if size is None:
            return None
        start = address[:size]
        if start in self._low_at:
            return (self._low_at[start], place)
        self._lows.append((place, start))
        self._low_at[start] = place
        return None

    def _forget_lows(self, spare):
        """Forgets the places with more spare words than these; all, if the whole address counts."""
        while self._lows and (spare is None or self._spares[self._lows[-1][0]] > spare):
            _, start = self._lows.pop()
            del self._low_at[start]

    def first_round(self, found):
        """The first round of the walk, as long as the one with these first and last places."""
        low, high = 0, found[0]
        size = found[1] - found[0]
        # Where a round begins, another one of its length begins at each later place.
        while low < high:
            middle = (low + high) // 2
            if self._least_front(middle, middle + size) is None:
                low = middle + 1
            else:
                high = middle
        return (high, high + size, self._least_front(high, high + size))

    def _least_front(self, i, j):
        """The least n with which (i, j, n) is a round, or None."""
        first, last = self.walk[i], self.walk[j]
        spares = self._spares[i:j]
        if None not in spares and len(last) >= len(first):
            # No front may have fewer words, as the steps look at them; with more, more must agree.
            size = len(first) - min(spares)
            if last[:size] == first[:size]:
                return size
        return len(first) if first == last else None
