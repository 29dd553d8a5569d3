"""Servers: which table is in force on which day, and what readers may remember of it."""

from leadsever.errors import BadDay, BadTable
from leadsever.tables import Table, is_end
from leadsever.words import address_key, is_day


class Server:
    """A server: tables, each from its day on."""

    def __init__(self):
        self._days = []
        self._tables = []

    def set_table(self, day, table):
        """Puts a table in force from a day on."""
        if not is_day(day) or (self._days and day <= self._days[-1]):
            raise BadDay(day)
        if not isinstance(table, Table):
            raise BadTable(table)
        self._days.append(day)
        self._tables.append(table)

    @property
    def days(self):
        """The list of the days from which on tables are in force, ascending."""
        return list(self._days)

    def table(self, day):
        """The table in force on a day."""
        return self.sources(day)[0][0]

    def answer(self, address, day):
        """The answer of the table in force on a day to an address."""
        return self.table(day).answer(address)

    def kept(self, address, day):
        """The list of the targets that a reader may remember for an address on a day, in order."""
        found = {}
        for table, age in self.sources(day):
            answer = table.answer(address)
            if not is_end(answer) and answer[2] >= max(age, 1):
                found[answer[1]] = True
        return sorted(list(found), key=address_key)

    def sources(self, day):
        """The list of the tables in force on a day or before, the latest first, with their ages."""
        found = []
        # The table in force is still so on the day, whenever the next one comes.
        until = day
        for start, table in reversed(list(zip(self._days, self._tables))):
            if start <= day:
                found.append((table, day - until))
                until = start - 1
        return found if found else [(Table(), 0)]

    def copied(self):
        """An equal server, which goes on by itself."""
        server = Server()
        for day, table in zip(self._days, self._tables):
            server.set_table(day, table)
        return server

    def __eq__(self, other):
        return isinstance(other, Server) and self._days == other._days and self._tables == other._tables

    def drop_after(self, day):
        """Takes away all tables that come into force after a day."""
        while self._days and self._days[-1] > day:
            self._days.pop()
            self._tables.pop()
