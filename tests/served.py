"""Servers and sites by chance, and what points 9 to 19 and 27 say of them, in the plainest way."""

from leadsever.errors import LeadError
from leadsever.heirs import claims_table
from leadsever.servers import Server
from leadsever.sites import Site
from leadsever.tables import Table
from leadsever.words import strange_word
from happened import happen, plain_claims_table, plain_heir, some_site
from plain import all_addresses, key, plain_choices, plain_head, plain_is_round, plain_joints, plain_words, some_rules

NOTHING = ("nothing",)
GONE = ("gone",)


def server_of(*rows):
    server = Server()
    for day, table in rows:
        server.set_table(day, table if isinstance(table, Table) else Table(table))
    return server


def site_of(*events):
    site = Site()
    for event in events:
        happen(site, event)
    return site


def put(day, sort, name, *place):
    return (day, "put", sort, name, place)


def move(day, name, *place):
    return (day, "move", None, name, place)


def take(day, name):
    return (day, "take", None, name)


def exact(place, *answer):
    return ("exact", tuple(place), answer)


def open_(place, *answer):
    return ("open", tuple(place), answer)


def to(place, days=0):
    """The parts of a redirect to a place of words of one letter."""
    return ("to", tuple(place), days)


# The example of DOC.md: a page moves from x to y and back.
FIRST = Table([("exact", ("x",), ("to", ("y",), 30)), ("exact", ("y",), ("page", "p"))])
SECOND = Table([("exact", ("x",), ("page", "p")), ("exact", ("y",), ("to", ("x",), 0))])
BACK_AND_FORTH = server_of((2, FIRST), (5, SECOND))
MOVED = site_of(put(1, "page", "p", "x"), move(2, "p", "y"), move(5, "p", "x"))


def some_plan(pick, words="ab", tries=12, longest=2, odd=0.3, names="pqrstu"):
    """A server that mostly leads the claims of a site, and this site, by chance."""
    site = some_site(pick, words, tries, longest=longest, names=names)
    days = pick.choice([(0,), (0, 3, 9), (0, 1, 2, 50), (30, 10000)])
    server = Server()
    for day in sorted({event[0] for event in site.events()} or {0}):
        if pick.random() < 0.8:
            rules = {rule[:2]: told_for(pick, rule, days) for rule in claims_table(site.at(day)).rules}
            if pick.random() < odd:
                rules.update({rule[:2]: rule for rule in some_rules(pick, words, 2, longest=longest, days=days)})
            if rules and pick.random() < odd:
                del rules[pick.choice(sorted(rules))]
            server.set_table(day, Table(list(rules.values())))
    return server, site


def told_for(pick, rule, days):
    """A rule, lasting for some days by chance if it is a redirect."""
    if rule[2][0] == "to":
        return (rule[0], rule[1], ("to", rule[2][1], pick.choice(days)))
    return rule


def moving_plan(pick, days=(0, 1, 2, 3, 5, 9)):
    """A server that leads the claims of a site each day, and this site, in which things move to and fro."""
    server, site = Server(), Site()
    places = list(all_addresses("ab", pick.choice([1, 1, 2])))[pick.choice([0, 1]):]
    for name in "pqr"[:pick.choice([1, 2, 3])]:
        let_happen(site, (0, "put", pick.choice(["page", "page", "section"]), name, pick.choice(places)))
    for day in range(pick.choice([3, 5, 8])):
        what = pick.choice(["move", "move", "move", "move", "take", "bring"])
        let_happen(site, (day, what, None, pick.choice(site.names), pick.choice(places)))
        if pick.random() < 0.8 or not day:
            server.set_table(day, Table([told_for(pick, rule, days) for rule in claims_table(site).rules]))
    return server, site


def let_happen(site, event):
    """Lets an event happen to a site, if it may."""
    try:
        happen(site, event)
    except LeadError:
        pass


def some_server(pick, longest=2):
    """A server by chance, in which walks go round."""
    server = Server()
    words = pick.choice(["a", "ab", "abc"])
    for day in range(pick.choice([1, 2, 3])):
        rules = some_rules(pick, words, pick.randrange(1, 8), longest=longest, ends=pick.choice([0, 0, 1]), days=(0, 1, 100))
        server.set_table(day, Table(rules))
    return server


def days_of(server, site):
    """The days on which something is new, and the first one."""
    return sorted({0, *server.days, *[event[0] for event in site.events()]})


def plain_allowed(server, address, day):
    """Point 9: the targets of the choices for an address."""
    found = set()
    for told in range(day + 1):
        answer = server.answer(address, told)
        if answer[0] == "to" and (told == day or (answer[2] > 0 and day <= told + answer[2])):
            found.add(answer[1])
    return found


def plain_free(server, address, day, limit=150):
    """All addresses of free walks from one, each with its targets; None if they are too many."""
    graph, todo = {}, [address]
    while todo:
        each = todo.pop()
        if each not in graph:
            graph[each] = plain_allowed(server, each, day)
            todo.extend(graph[each])
            if len(graph) > limit or len(each) > 40:
                return None
    return graph


def goes_round(graph):
    """Whether a graph has a circle."""
    left = {vertex: set(after) for vertex, after in graph.items()}
    while left:
        ends = [vertex for vertex, after in left.items() if not after & left.keys()]
        if not ends:
            return True
        for vertex in ends:
            del left[vertex]
    return False


def plain_fits(end, due):
    return end == due or (end, due) == (NOTHING, GONE)


def plain_is_wrong(server, table, address, day):
    """Point 18, for an address and the table of claims; walks that are not seen to end have no bound."""
    graph = plain_free(server, address, day)
    if graph is None or goes_round(graph):
        return True
    due = plain_heir(table, address)
    ends = [server.answer(each, day) for each in graph]
    return due is not None and any(end[0] != "to" and not plain_fits(end, due) for end in ends)


def tried_words(server, table, day):
    words = sorted(plain_words([table, *[told for told, _ in server.sources(day)]]))
    return [*words, strange_word(words)]


def plain_wrong_address(server, site, day, longest=3):
    """The least wrong address of so many words, or None."""
    table = plain_claims_table(site.at(day))
    for address in all_addresses(tried_words(server, table, day), longest):
        if plain_is_wrong(server, table, address, day):
            return address
    return None


class PlainReader:
    """Point 10."""

    def __init__(self, server):
        self.server = server
        self.held = {}

    def choose(self, address, day):
        """The answer that the reader goes by, and whether it remembers it."""
        if address in self.held:
            target, told, days = self.held[address]
            if day <= told + days:
                return ("to", target, days), True
        return self.server.answer(address, day), False

    def ask(self, address, day):
        answer, known = self.choose(address, day)
        if not known and answer[0] == "to" and answer[2] > 0:
            self.held[address] = (answer[1], day, answer[2])
        return answer

    def follow(self, address, day, steps):
        walk = [address]
        for _ in range(steps):
            answer, _ = self.choose(walk[-1], day)
            if answer[0] != "to":
                return walk, answer
            walk.append(answer[1])
        answer, _ = self.choose(walk[-1], day)
        return walk, None if answer[0] == "to" else answer


def is_plain_address(value):
    return type(value) is tuple and all(type(word) is str and word.isascii() and word.isalpha() and word.islower()
                                        and len(word) <= 12 for word in value)


def plain_is_wrong_way(server, site, day, value):
    """Point 19 word by word, for any value."""
    if type(value) is not tuple or len(value) != 4:
        return False
    address, visits, walk, turn = value
    if not is_plain_address(address) or type(walk) is not list or not walk or not all(map(is_plain_address, walk)):
        return False
    if walk[0] != address or type(visits) is not list:
        return False
    for visit in visits:
        if type(visit) is not tuple or len(visit) != 2 or type(visit[0]) is not int or not is_plain_address(visit[1]):
            return False
        if not 0 <= visit[0] <= day:
            return False
    if visits != sorted(visits, key=lambda visit: (visit[0], key(visit[1]))) or len({one for _, one in visits}) < len(visits):
        return False
    if any(after not in plain_allowed(server, before, day) for before, after in zip(walk, walk[1:])):
        return False
    reader = PlainReader(server)
    for told, one in visits:
        reader.ask(one, told)
    found, end = reader.follow(address, day, len(walk) - 1)
    if found != walk or len(set(walk[:-1])) < len(walk) - 1:
        return False
    if turn is None:
        due = plain_heir(plain_claims_table(site.at(day)), address)
        return len(set(walk)) == len(walk) and end is not None and due is not None and not plain_fits(end, due)
    if type(turn) is not tuple or len(turn) != 3 or any(type(part) is not int for part in turn):
        return False
    return turn[1] == len(walk) - 1 and plain_is_round(turn, walk, plain_joints([table for table, _ in server.sources(day)]))


class PlainPaper:
    """Point 27 word by word, for a paper of the right form whose heights and backs are right."""

    def __init__(self, server, site, day, paper):
        self.table = plain_claims_table(site.at(day))
        self.sources = [*server.sources(day), (self.table, 1)]
        self.tables = [table for table, _ in self.sources]
        self.places = plain_joints(self.tables)
        self.words = [*sorted(plain_words(self.tables)), strange_word(sorted(plain_words(self.tables)))]
        _, self.backs, self.ends, self.pairs = paper

    def is_right(self):
        heads = list(self.ends)
        if not all(self.is_head_right(head) for head in heads):
            return False
        return all(self.is_pair_right(due, here) for due, here in self.pairs)

    def is_head_right(self, head):
        address = head[0] if head[1] == "$" else head[0] + (head[1],)
        asked = []
        for answer in plain_choices(self.sources[:-1], address):
            if answer[0] == "to":
                for met, behind in self.met(answer[1], head[1] == "$"):
                    ends = self.ends[met]
                    if ends is None:
                        asked.append(None)
                    asked.extend((kind, front + behind if kind[0] == "section" else front) for kind, front in ends or [])
            elif answer[0] == "section":
                asked.append((answer[:2], answer[2]))
            else:
                asked.append((GONE if answer == NOTHING else answer, ()))
        return self.ends[head] is None or all(self.ends[head] == [end] for end in asked)

    def met(self, front, to_the_end):
        """The heads that are met in reading a front, each with the words that are still to read."""
        found, come = [], {()}
        for at, word in enumerate(front):
            after = set()
            for place in come:
                if place + (word,) in self.places:
                    after.add(place + (word,))
                else:
                    found.append(((place, word), front[at + 1:]))
                    after.update(self.backs[place, word])
            come = after
        return found + [((place, "$"), ()) for place in come if to_the_end]

    def due_after(self, stand, word):
        """Point 26, by walking: where a word (or "$") read at a stand leads by the table of claims."""
        if stand[0] == "end":
            return ("end", stand[1], stand[2] + (word,) if stand[1][0] == "section" and word != "$" else stand[2])
        places = plain_joints([self.table])
        address = stand[1] if word == "$" else stand[1] + (word,)
        while word == "$" or address not in places:
            answer = self.table.answer(address)
            if answer[0] != "to":
                return ("end", answer[:2], answer[2]) if answer[0] == "section" else ("end", answer, ())
            address = answer[1]
        return ("at", address)

    def is_pair_right(self, due, here):
        end = self.due_after(due, "$")
        if end[1] != NOTHING:
            last = [here[1:]] if here[0] == "end" else self.ends[here[1], "$"]
            if last != [end[1:]]:
                return False
        for word in self.words:
            due2 = self.due_after(due, word)
            if due2[:2] == ("end", NOTHING):
                continue
            if here[0] == "end":
                after = [("end", here[1], here[2] + (word,) if here[1][0] == "section" else here[2])]
            elif here[1] + (word,) in self.places:
                after = [("at", here[1] + (word,))]
            else:
                head = plain_head(here[1] + (word,), self.tables)
                if self.ends[head] is None:
                    return False
                after = [("at", joint) for joint in self.backs[head]] + [("end", *end) for end in self.ends[head]]
            for stand in after:
                if (due2, stand) not in self.pairs and not (due2[0] == "end" and due2 == stand):
                    return False
        return True
