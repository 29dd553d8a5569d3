"""Readers: programs that follow redirects, and remember the lasting ones."""

from leadsever.errors import BadDay
from leadsever.tables import is_end
from leadsever.words import address_key, is_day, rest_of


class Reader:
    """A reader of a server, which remembers nothing at first."""

    def __init__(self, server):
        self._server = server.copied()
        # Of the last visit.
        self._day = 0
        # From addresses to tuples (target, days, last day on which it is valid).
        self._held = {}

    def ask(self, address, day):
        """Visits an address on a day; returns what the reader remembers for it, or the server's answer."""
        self._check_day(day)
        self._day = day
        held = self._valid(tuple(address), day)
        if held is not None:
            return ("to", held[0], held[1])
        answer = self._server.answer(address, day)
        if not is_end(answer) and answer[2] > 0:
            self._held[tuple(address)] = (answer[1], answer[2], day + answer[2])
        return answer

    def memory(self, day):
        """The dict from the addresses for which a valid target is remembered to the targets."""
        self._check_day(day)
        return {address: self._held[address][0] for address in self._held if self._held[address][2] >= day}

    def forget(self, address):
        """Forgets what is remembered for an address."""
        if tuple(address) in self._held:
            del self._held[tuple(address)]

    def follow(self, address, day, *, steps=1000):
        """The addresses to which following leads from one on a day, and the end, or None."""
        self._check_day(day)
        table = self._server.table(day)
        walk = [tuple(address)]
        while True:
            held = self._valid(walk[-1], day)
            answer = table.answer(walk[-1]) if held is None else ("to", held[0], held[1])
            if is_end(answer):
                return (walk, answer)
            if len(walk) > steps:
                return (walk, None)
            walk.append(answer[1])

    def _check_day(self, day):
        """Raises BadDay for what is no day, or is ahead of the last visit's."""
        if not is_day(day) or day < self._day:
            raise BadDay(day)

    def _valid(self, address, day):
        """What is remembered for an address, if it is valid on a day, or None."""
        held = self._held.get(address)
        return None if held is None or held[2] < day else held


def visits_for(server, walk, day):
    """The visits by which a reader takes a free walk on a day."""
    sources = server.sources(day)
    found = []
    for address, target in zip(walk, walk[1:]):
        at = _latest(sources, address, tuple(target))
        if at is not None and at > 0:
            found.append((day - sources[at][1], tuple(address)))
    return sorted(found, key=_visit_key)


def _latest(sources, address, target):
    """Where the latest source is that may redirect an address to a target, or None."""
    for at, (table, age) in enumerate(sources):
        answer = table.answer(address)
        if not is_end(answer) and answer[1] == target and (at == 0 or answer[2] >= max(age, 1)):
            return at
    return None


def _visit_key(visit):
    """What visits are sorted by: by days, then in the order of addresses."""
    return (visit[0], address_key(visit[1]))


def is_choice(sources, address, target):
    """Whether one of the choices for an address is a redirect to a target."""
    return _latest(sources, address, target) is not None


def longer_walk(server, day, way, steps):
    """The visits and the walk of a wrong way with a round that is done again and again."""
    _, _, walk, turn = way
    i, j, size = turn
    found = [tuple(address) for address in walk]
    first, last = found[i], found[j]
    rest = first[size:]
    # What each time puts between the front and the other words.
    more = last[size:len(last) - len(rest)]
    fronts = [address[:len(address) - len(rest)] for address in found[i + 1:j + 1]]
    seen = {address: True for address in found[:-1]}
    while len(found) <= steps and found[-1] not in seen:
        seen[found[-1]] = True
        many, at = divmod(len(found) - 1 - j, len(fronts))
        found.append((*fronts[at], *(more * (many + 1)), *rest))
    return (visits_for(server, found, day), found)
