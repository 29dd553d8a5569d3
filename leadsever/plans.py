"""Plans: servers and sites that go on, and for how many days redirects may be told."""

from leadsever.errors import BadDay, BadRule
from leadsever.heads import Heads
from leadsever.heirs import heir
from leadsever.pairs import wrong_of
from leadsever.readers import visits_for
from leadsever.safe import wrong_address, wrong_walk
from leadsever.servers import Server
from leadsever.tables import MOST_DAYS, is_end, rule_key
from leadsever.trees import BEHIND
from leadsever.words import begins, is_day


def first_unsafe(server, site, day):
    """The first day, from a day on, on which a site is not safe with a server, or None."""
    for later in turning_days(server, site, day):
        if wrong_address(server, site, later) is not None:
            return later
    return None


def turning_days(server, site, day):
    """A day and all later ones on which a table comes into force or something happens, ascending."""
    found = {day: True}
    for later in [*server.days, *[event[0] for event in site.events()]]:
        if later > day:
            found[later] = True
    return sorted(list(found))


def longest(server, site, day, rule):
    """For how many days a redirect of the table of a day may be told so that the site is safe, or None."""
    if not is_day(day) or day not in server.days:
        raise BadDay(day)
    if rule not in server.table(day) or is_end(rule[2]):
        raise BadRule(rule)
    passing = retold(server, day, rule, 0)
    if first_unsafe(passing, site, day) is not None:
        return None
    return Plan(passing, site).lengthen(day, rule, MOST_DAYS)


class Plan:
    """A plan whose redirects are made longer, one after the other, as far as the site stays safe."""

    def __init__(self, server, site):
        self._server = server
        self._site = site
        # By days: the heads of what may be remembered on them.
        self._heads = {}

    def server(self):
        """The server of the plan as it is now."""
        return self._server.copied()

    def lengthen(self, day, rule, most):
        """Lets a passing redirect of the table of a day last, for at most so many days; returns for how many."""
        last = _last_day(self._server, day)
        told = retold(self._server, day, rule, most)
        found = most
        for later in turning_days(self._server, self._site, day):
            # Where it must have expired on a day, it has expired on all days behind this one, too.
            if last is not None and last < later <= last + found and not self._stays_safe(told, later, day, rule):
                found = later - last - 1
        self._server = retold(self._server, day, rule, found)
        return found

    def _stays_safe(self, told, later, day, rule):
        """Whether the site is safe on a later day if a redirect of the table of a day may be remembered, too."""
        if later not in self._heads:
            self._heads[later] = Heads(self._server.sources(later))
        if _brings_nothing(self._heads[later], self._server.table(day), rule):
            return True
        heads = Heads(told.sources(later))
        if wrong_of(heads, self._site.at(later)) is not None:
            return False
        self._heads[later] = heads
        return True


def _brings_nothing(heads, table, rule):
    """Whether what a redirect of a table gives to choose is among the answers to all heads already."""
    for head in heads.heads():
        address = head[0] if head[1] == BEHIND else (*head[0], head[1])
        if begins(address, rule[1]):
            telling = table.rule_for(address)
            if telling is not None and telling[:2] == rule[:2]:
                if (("to",), table.answer(address)[1]) not in heads.answers(head):
                    return False
    return True


def _last_day(server, day):
    """The last day on which the table of a day is in force, or None."""
    for later in server.days:
        if later > day:
            return later - 1
    return None


def retold(server, day, rule, days):
    """A server in which a redirect of the table of a day is told for some days."""
    sort, place, answer = rule
    found = Server()
    for start in server.days:
        table = server.table(start)
        if start == day:
            table = table.with_rule((sort, place, ("to", answer[1], days)))
        found.set_table(start, table)
    return found


def free_from(server, address, day):
    """The first day, from a day on, from which on nothing can be remembered for an address, or None."""
    found = day
    for start in server.days:
        answer = server.answer(address, start)
        if not is_end(answer) and answer[2] > 0:
            last = _last_day(server, start)
            if last is None:
                return None
            found = max(found, last + answer[2] + 1)
    return found


def blamed(server, site, day):
    """The list of the tuples (day, rule) for the lasting redirects of old tables that alone make a site unsafe."""
    address = wrong_address(server, site, day)
    if address is None:
        return []
    wrong = wrong_walk(server.sources(day), address, heir(site.at(day), address))
    # What is to be blamed is needed for each wrong walk, so it is among what one of them needs.
    suspects = _remembered(server, day) if wrong is None else _visited(server, wrong[0], day)
    found = []
    for start, rule in sorted(suspects, key=_blame_key):
        if wrong_address(retold(server, start, rule, 0), site, day) is None:
            found.append((start, rule))
    return found


def _blame_key(row):
    """What the rows of blamed are sorted by: by days, then as in tables."""
    return (row[0], rule_key(row[1]))


def _visited(server, walk, day):
    """The list of the tuples (day, rule) for the redirects that a reader must remember to take a walk."""
    found = {}
    for told, address in visits_for(server, walk, day):
        start = max([start for start in server.days if start <= told])
        found[(start, server.table(start).rule_for(address))] = True
    return list(found)


def _remembered(server, day):
    """The list of the tuples (day, rule) for the redirects of old tables that may be remembered on a day."""
    found = []
    for start in server.days:
        last = _last_day(server, start)
        if last is not None and last < day:
            for rule in server.table(start).rules:
                if not is_end(rule[2]) and rule[2][2] >= day - last:
                    found.append((start, rule))
    return found
