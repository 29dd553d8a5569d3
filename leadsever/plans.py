"""Plans: servers and sites that go on, and for how many days redirects may be told."""

from leadsever.errors import BadDay, BadRule
from leadsever.pairs import wrong_of
from leadsever.servers import Server
from leadsever.tables import MOST_DAYS, is_end
from leadsever.words import is_day


def first_unsafe(server, site, day):
    """The first day, from a day on, on which a site is not safe with a server, or None."""
    for later in turning_days(server, site, day):
        if wrong_of(server.sources(later), site.at(later)) is not None:
            return later
    return None


def turning_days(server, site, day):
    """A day and all later ones on which a table comes into force or something happens, ascending."""
    found = {day: True}
    for later in [*server.days, *[event[0] for event in site.events()]]:
        if later > day:
            found[later] = True
    return sorted(list(found))


def longest(server, site, day, rule):
    """For how many days a redirect of the table of a day may be told so that the site is safe, or None."""
    if not is_day(day) or day not in server.days:
        raise BadDay(day)
    if rule not in server.table(day) or is_end(rule[2]):
        raise BadRule(rule)
    if first_unsafe(retold(server, day, rule, 0), site, day) is not None:
        return None
    return longest_to(server, site, day, rule, MOST_DAYS)


def longest_to(server, site, day, rule, most):
    """As longest, but for at most so many days, if the site is safe where the redirect is passing."""
    told = retold(server, day, rule, most)
    last = _last_day(server, day)
    if last is None:
        return most
    for later in turning_days(server, site, day):
        # On the later days, the redirect is remembered only if it lasts for more days.
        if last < later <= last + most and wrong_of(told.sources(later), site.at(later)) is not None:
            return later - last - 1
    return most


def _last_day(server, day):
    """The last day on which the table of a day is in force, or None."""
    for later in server.days:
        if later > day:
            return later - 1
    return None


def retold(server, day, rule, days):
    """A server in which a redirect of the table of a day is told for some days."""
    sort, place, answer = rule
    found = Server()
    for start in server.days:
        table = server.table(start)
        if start == day:
            table = table.with_rule((sort, place, ("to", answer[1], days)))
        found.set_table(start, table)
    return found


def free_from(server, address, day):
    """The first day, from a day on, from which on nothing can be remembered for an address, or None."""
    found = day
    for start in server.days:
        answer = server.answer(address, start)
        if not is_end(answer) and answer[2] > 0:
            last = _last_day(server, start)
            if last is None:
                return None
            found = max(found, last + answer[2] + 1)
    return found


def blamed(server, site, day):
    """The list of the tuples (day, rule) for the lasting redirects of old tables that alone make a site unsafe."""
    now = site.at(day)
    found = []
    if wrong_of(server.sources(day), now) is None:
        return found
    for start in server.days:
        last = _last_day(server, start)
        if last is not None and last < day:
            for rule in server.table(start).rules:
                # What cannot be remembered on the day makes no difference.
                if not is_end(rule[2]) and rule[2][2] >= day - last:
                    if wrong_of(retold(server, start, rule, 0).sources(day), now) is None:
                        found.append((start, rule))
    return found
