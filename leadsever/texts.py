"""The texts of addresses, rules, tables, servers and sites, and what has a text."""

from leadsever.errors import BadText, LeadError
from leadsever.servers import Server
from leadsever.sites import Site
from leadsever.tables import Table, is_rule
from leadsever.words import is_day, is_word

# No number in a text has more figures: the greatest one is the last day.
MOST_FIGURES = 7
# What stands ahead of the last word of a line, by what happens.
LINKS = {"put": "at", "move": "to", "merge": "into", "bring": "at"}


def address_text(address):
    """The text of an address."""
    return "/" + "/".join(list(address))


def rule_text(rule):
    """The text of a rule."""
    sort, place, answer = rule
    start = address_text(place)
    if sort == "open":
        start = start + "*" if start == "/" else start + "/*"
    return start + " " + answer_text(answer)


def answer_text(answer):
    """The text of an answer: of a rule, or to an address."""
    if answer[0] == "to":
        lasting = f" for {answer[2]}" if answer[2] > 0 else ""
        return "to " + address_text(answer[1]) + lasting
    if answer[0] == "section" and len(answer) == 3:
        return f"section {answer[1]} {address_text(answer[2])}"
    return " ".join(list(answer))


def table_text(table):
    """The text of a table."""
    return "\n".join([rule_text(rule) for rule in table.rules])


def server_text(server):
    """The text of a server."""
    lines = []
    for day in server.days:
        lines.append(f"day {day}")
        for rule in server.table(day).rules:
            lines.append(rule_text(rule))
    return "\n".join(lines)


def site_text(site):
    """The text of a site."""
    return "\n".join([event_text(event) for event in site.events()])


def event_text(event):
    """The line for something that happened to a site."""
    day, what, sort, name = event[:4]
    start = f"{day} {what} {sort} {name}"
    if what == "take":
        return start
    last = event[4] if what == "merge" else address_text(event[4])
    return f"{start} {LINKS[what]} {last}"


def day_in(text):
    """The day that is written in decimal figures, or None."""
    if not text.isascii() or not text.isdigit() or len(text) > MOST_FIGURES:
        return None
    found = int(text)
    return found if str(found) == text and is_day(found) else None


def address_in(text):
    """The address that has a text, or None."""
    if text == "/":
        return ()
    parts = text.split("/")
    if len(parts) < 2 or parts[0] != "":
        return None
    for word in parts[1:]:
        if not is_word(word):
            return None
    return tuple(parts[1:])


def rule_in(text):
    """The rule that has a text, or None."""
    parts = text.split(" ")
    start = parts[0]
    sort = "exact"
    if start.endswith("/*"):
        sort = "open"
        start = "/" if start == "/*" else start[:-2]
    rule = (sort, address_in(start), _answer_in(parts[1:]))
    # What may be written in two ways is the text of none of them.
    return rule if is_rule(rule) and rule_text(rule) == text else None


def _answer_in(parts):
    """The answer of a rule that is written in some words, or None."""
    if parts == ["gone"]:
        return tuple(parts)
    if len(parts) == 2 and parts[0] in ("page", "section"):
        return tuple(parts)
    if len(parts) == 2 and parts[0] == "to":
        return ("to", address_in(parts[1]), 0)
    if len(parts) == 4 and parts[0] == "to" and parts[2] == "for":
        return ("to", address_in(parts[1]), day_in(parts[3]))
    return None


def event_in(line):
    """What happened to a site, if a line tells it, or None; whether it may happen is not looked at."""
    parts = line.split(" ")
    if len(parts) not in (4, 6):
        return None
    day, what, sort, name = day_in(parts[0]), parts[1], parts[2], parts[3]
    if day is None or sort not in ("page", "section") or not is_word(name):
        return None
    if what == "take":
        return (day, what, sort, name) if len(parts) == 4 else None
    if len(parts) != 6 or LINKS.get(what) != parts[4]:
        return None
    if what == "merge":
        return (day, what, sort, name, parts[5]) if is_word(parts[5]) else None
    place = address_in(parts[5])
    return None if place is None else (day, what, sort, name, place)


def let_happen(site, event):
    """Lets something happen to a site, with the errors of the site."""
    day, what, sort, name = event[:4]
    if what == "put" and sort == "page":
        site.put_page(day, name, event[4])
    elif what == "put":
        site.put_section(day, name, event[4])
    elif what == "move":
        site.move(day, name, event[4])
    elif what == "merge":
        site.merge(day, name, event[4])
    elif what == "take":
        site.take(day, name)
    else:
        site.bring(day, name, event[4])


def read_address(text):
    """The address that has a text."""
    found = address_in(text) if isinstance(text, str) else None
    if found is None:
        raise BadText(text)
    return found


def read_rule(text):
    """The rule that has a text."""
    found = rule_in(text) if isinstance(text, str) else None
    if found is None:
        raise BadText(text)
    return found


def read_table(text):
    """The table that has a text."""
    found = _table_of(_lines_of(text)) if isinstance(text, str) else None
    if found is None or table_text(found) != text:
        raise BadText(text)
    return found


def _lines_of(text):
    """The list of the lines of a text; the text without anything has none."""
    return text.split("\n") if text else []


def _table_of(lines):
    """The table with the rules that some lines tell, in any sequence, or None."""
    rules = [rule_in(line) for line in lines]
    if None in rules:
        return None
    try:
        return Table(rules)
    except LeadError:
        return None


def read_server(text):
    """The server that has a text."""
    found = _server_of(_lines_of(text)) if isinstance(text, str) else None
    if found is None or server_text(found) != text:
        raise BadText(text)
    return found


def _server_of(lines):
    """The server that some lines tell, or None."""
    rows = []
    for line in lines:
        parts = line.split(" ")
        if parts[0] == "day":
            rows.append((day_in(parts[1]) if len(parts) == 2 else None, []))
        elif rows:
            rows[-1][1].append(line)
        else:
            return None
    found = Server()
    for day, told in rows:
        table = _table_of(told)
        try:
            found.set_table(day, table)
        except LeadError:
            return None
    return found


def read_site(text):
    """The site that has a text."""
    found = _site_of(_lines_of(text)) if isinstance(text, str) else None
    if found is None or site_text(found) != text:
        raise BadText(text)
    return found


def _site_of(lines):
    """The site that some lines tell, or None."""
    found = Site()
    for line in lines:
        event = event_in(line)
        if event is None:
            return None
        try:
            let_happen(found, event)
        except LeadError:
            return None
    return found
