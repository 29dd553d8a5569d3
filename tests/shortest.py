"""The shortest walks that go wrong, in the plainest way; and servers by chance with long walks to try it with."""

from leadsever.servers import Server
from leadsever.tables import Table
from plain import plain_choices, plain_joints
from served import plain_fits
from test_walks import LETTERS


class TooMany(Exception):
    """There are too many addresses to try them all."""


class Plain:
    """Free walks by sources, address by address."""

    def __init__(self, sources):
        self.sources = sources
        self.places = plain_joints([table for table, _ in sources])
        self.known = {}

    def targets(self, address):
        if address not in self.known:
            choices = plain_choices(self.sources, address)
            self.known[address] = list(dict.fromkeys(answer[1] for answer in choices if answer[0] == "to"))
        return self.known[address]

    def distances(self, address, limit, most=1000):
        """How many redirects lead to each address from one, if these are at most so many."""
        found = {address: 0}
        level = [address]
        for steps in range(1, limit + 1):
            level = [after for before in level for after in self.targets(before)]
            level = [each for each in dict.fromkeys(level) if each not in found]
            found.update((each, steps) for each in level)
            if len(found) > most:
                raise TooMany
        return found

    def end(self, address, due, limit):
        """The number of redirects of the shortest walk to an end that does not fit an heir, or None."""
        for each, steps in self.distances(address, limit).items():
            end = self.sources[0][0].answer(each)
            if due is not None and end[0] != "to" and not plain_fits(end, due):
                return steps
        return None

    def round(self, address, limit):
        """The number of redirects of the shortest walk into a round, or None (point 12 word by word)."""
        best = limit + 1
        for start, steps in self.distances(address, limit).items():
            fronts = [None]
            for size in range(len(start), -1, -1):
                if start[:size] in self.places:
                    break
                fronts.append(size)
            for size in fronts:
                more = self.back_to(start, size, best - 1 - steps)
                if more is not None:
                    best = steps + more
        return None if best > limit else best

    def back_to(self, start, size, limit):
        """The redirects of the shortest round from an address with a front of so many words, or to itself (None)."""
        seen, level = {start}, [start]
        for steps in range(1, limit + 1):
            longer = []
            for after in (after for before in level for after in self.targets(before)):
                if self.is_back(start, size, after):
                    return steps
                if after not in seen and self.may_go_on(start, size, after):
                    seen.add(after)
                    longer.append(after)
            level = longer
        return None

    def is_back(self, start, size, after):
        if size is None:
            return after == start
        rest = start[size:]
        cut = len(after) - len(rest)
        return cut >= size and after[cut:] == rest and after[:size] == start[:size]

    def may_go_on(self, start, size, after):
        if size is None:
            return True
        rest = start[size:]
        cut = len(after) - len(rest)
        return cut >= 0 and after[cut:] == rest and after[:cut] not in self.places

    def wrong(self, address, due, limit):
        """The number of redirects of the shortest wrong walk, if these are at most so many, or None."""
        if limit < 0:
            return None
        found = [steps for steps in (self.end(address, due, limit), self.round(address, limit)) if steps is not None]
        return min(found, default=None)


def slow_rules(letters):
    """Rules by which the first one of some letters is worked off in 2 ** len(letters) - 1 redirects."""
    rules = [("open", (one,), ("to", (two, two), 0)) for one, two in zip(letters, letters[1:])]
    return [*rules, ("open", (letters[-1],), ("to", (), 0))]


def some_place(pick, letters, sizes):
    return tuple(pick.choice(letters) for _ in range(pick.choice(sizes)))


def some_redirect(pick, letters, slow, sizes=(0, 1, 1, 1, 2)):
    """A redirect from a place of some letters to these and a slow one."""
    target = some_place(pick, letters + slow, [0, 1, 1, 2, 2, 3])
    return (pick.choice(["open", "open", "exact"]), some_place(pick, letters, sizes), ("to", target, 9))


def some_end(pick, letters):
    """A rule that is no redirect."""
    sort = pick.choice(["exact", "open"])
    own = ("page", pick.choice("pq")) if sort == "exact" else ("section", pick.choice("st"))
    return (sort, some_place(pick, letters, [0, 1, 1, 2]), pick.choice([("gone",), own]))


def some_slow_server(pick, most=5):
    """Redirects by chance by one table or more, and slow letters."""
    slow = LETTERS[3:4 + pick.randrange(most)]
    letters = pick.choice(["ab", "abc"])
    rows = [[some_redirect(pick, letters, slow[0]) for _ in range(pick.randrange(1, 5))] for _ in range(pick.choice([1, 2, 2, 3]))]
    rows[-1] = [*slow_rules(slow), *rows[-1], *[some_end(pick, letters) for _ in range(pick.choice([0, 0, 1, 2]))]]
    return server_of_rows(rows)


def some_late_server(pick, most=5):
    """A round that begins at /a/b, while slow letters are worked off, but for some changes by chance."""
    slow = LETTERS[3:4 + pick.randrange(most)]
    old = [("exact", ("b",), ("to", ("a", "b"), 9))]
    new = [("open", (), ("to", ("b", "b"), 9)), ("open", ("a",), ("to", (slow[0],), 9)), ("open", ("b",), ("to", ("a",), 9))]
    for _ in range(pick.randrange(4)):
        rows, other = pick.choice([old, new]), some_redirect(pick, "abz", slow[0])
        if not rows or pick.random() < 0.3:
            rows.append(other)
        else:
            at = pick.randrange(len(rows))
            rows[at] = tuple(pick.choice(parts) for parts in zip(rows[at], other))
    new.extend(some_end(pick, "abz") for _ in range(pick.choice([0, 0, 1])))
    return server_of_rows([old, [*slow_rules(slow), *new]])


def server_of_rows(rows):
    """A server with a table for each list of rules, of which the later ones stand in place of others."""
    server = Server()
    for day, rules in enumerate(rows):
        server.set_table(day, Table(list({rule[:2]: rule for rule in rules}.values())))
    return server
