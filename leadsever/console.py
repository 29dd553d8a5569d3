"""A console: commands to a server and a site, and what they return."""

from leadsever.errors import BadCommand, UnknownName
from leadsever.fewest import fewest_table
from leadsever.heirs import heir
from leadsever.plans import free_from
from leadsever.safe import wrong_way
from leadsever.servers import Server
from leadsever.sites import Site
from leadsever.tables import Table
from leadsever.texts import address_in, address_text, answer_text, day_in, event_in, let_happen, rule_in
from leadsever.texts import server_text, site_text, table_text

# What each command has behind it; the commands "day" and "on" are looked at by themselves.
FORMS = {"ask": ("day", "address"), "kept": ("day", "address"), "heir": ("address",), "safe": ("day",),
         "free": ("day", "address"), "few": (), "table": ("day",), "server": (), "site": ()}


class Console:
    """A console with a server and a site of its own, without anything at first."""

    def __init__(self):
        self._server = Server()
        self._site = Site()

    def __call__(self, command):
        """Executes a command and returns a text."""
        if not isinstance(command, str):
            raise BadCommand(command)
        word, _, rest = command.partition(" ")
        if word == "day":
            return self._set_table(command)
        if word == "on":
            return self._let_happen(command, rest)
        return self._tell(word, _values_of(command))

    def _set_table(self, command):
        """Puts a table in force from a day on."""
        parts = command.split(" ", 2)
        day = day_in(parts[1]) if len(parts) > 1 else None
        rules = [rule_in(text) for text in parts[2].split(" ; ")] if len(parts) > 2 else []
        if day is None or None in rules:
            raise BadCommand(command)
        self._server.set_table(day, Table(rules))
        return "ok"

    def _let_happen(self, command, line):
        """Lets something happen to the site."""
        event = event_in(line)
        if event is None:
            raise BadCommand(command)
        _, what, sort, name = event[:4]
        if what != "put" and name in self._site.names and self._site.sort_of(name) != sort:
            raise UnknownName(name)
        let_happen(self._site, event)
        return "ok"

    def _tell(self, word, values):
        """What a command returns that changes nothing."""
        if word == "ask":
            return answer_text(self._server.answer(values[1], values[0]))
        if word == "kept":
            return _targets_text(self._server.kept(values[1], values[0]))
        if word == "heir":
            found = heir(self._site, values[0])
            return "none" if found is None else answer_text(found)
        if word == "safe":
            return _way_text(wrong_way(self._server, self._site, values[0]))
        if word == "free":
            found = free_from(self._server, values[1], values[0])
            return "never" if found is None else str(found)
        if word == "few":
            table = fewest_table(self._site)
            return "none" if table is None else str(len(table))
        if word == "table":
            return _in_one_line(table_text(self._server.table(values[0])))
        return _in_one_line(server_text(self._server) if word == "server" else site_text(self._site))


def _values_of(command):
    """The list of the days and addresses behind the first word of a command."""
    parts = command.split(" ")
    form = FORMS.get(parts[0])
    if form is None or len(parts) != len(form) + 1:
        raise BadCommand(command)
    found = [day_in(part) if kind == "day" else address_in(part) for kind, part in zip(form, parts[1:])]
    if None in found:
        raise BadCommand(command)
    return found


def _targets_text(targets):
    """The texts of some targets, in one line."""
    return " ".join([address_text(target) for target in targets]) if targets else "none"


def _way_text(way):
    """What is told of a wrong way, or of None."""
    if way is None:
        return "safe"
    walk = " > ".join([address_text(address) for address in way[2]])
    return f"wrong {walk}" if way[3] is None else f"wrong {walk} round"


def _in_one_line(text):
    """A text of some lines as one line."""
    return text.replace("\n", " // ")
