"""Points 8 and 9: servers, and what readers may remember."""

import random
import unittest

from leadsever.errors import BadDay, BadTable
from leadsever.servers import Server
from leadsever.tables import Table
from plain import all_addresses, key, some_table
from test_rules import ANY_VALUES

LATE = 1000000
FIRST = Table([("exact", ("x",), ("to", ("y",), 30)), ("exact", ("y",), ("page", "p"))])
SECOND = Table([("exact", ("x",), ("page", "p")), ("exact", ("y",), ("to", ("x",), 0))])
BAD_DAYS = tuple(value for value in ANY_VALUES if isinstance(value, bool) or value not in (0, 1)) + (
    LATE + 1, -1, "1", 1.0, (1,), [1], -10 ** 59, {1: 1})


def server_of(*rows):
    server = Server()
    for day, table in rows:
        server.set_table(day, table)
    return server


class SetTable(unittest.TestCase):
    def refused(self, server, day, table, error, value):
        before = server.copied()
        with self.assertRaises(error) as caught:
            server.set_table(day, table)
        self.assertIs(type(caught.exception), error)
        self.assertIs(caught.exception.value, value)
        self.assertEqual(server, before)
        self.assertEqual(server.days, before.days)

    def test_days(self):
        server = Server()
        self.assertEqual(server.days, [])
        self.assertIsNone(server.set_table(0, FIRST))
        server.set_table(1, SECOND)
        server.set_table(LATE, FIRST)
        self.assertEqual(server.days, [0, 1, LATE])

    def test_by_name(self):
        server = Server()
        server.set_table(table=FIRST, day=3)
        self.assertEqual((server.days, server.table(day=3)), ([3], FIRST))
        self.assertEqual(server.answer(day=3, address=("x",)), ("to", ("y",), 30))
        self.assertEqual(server.kept(day=3, address=("x",)), [("y",)])
        self.assertEqual(server.sources(day=3), [(FIRST, 0)])
        server.drop_after(day=2)
        self.assertEqual(server.days, [])

    def test_what_is_no_day(self):
        for value in BAD_DAYS:
            self.refused(Server(), value, FIRST, BadDay, value)
            self.refused(server_of((0, FIRST)), value, SECOND, BadDay, value)

    def test_days_that_are_not_later(self):
        server = server_of((5, FIRST), (10 ** 5, SECOND))
        for day in (0, 4, 5, 6, 10 ** 5 - 1, 10 ** 5):
            self.refused(server, day, FIRST, BadDay, day)
        self.refused(server_of((LATE, FIRST)), LATE, FIRST, BadDay, LATE)
        self.refused(server_of((0, FIRST)), 0, FIRST, BadDay, 0)

    def test_what_is_no_table(self):
        values = [value for value in ANY_VALUES if not isinstance(value, Table)]
        for value in (*values, FIRST.rules, list(FIRST.rules), Server()):
            self.refused(Server(), 0, value, BadTable, value)
            self.refused(server_of((3, FIRST)), 4, value, BadTable, value)

    def test_the_day_is_told_first(self):
        server = server_of((3, FIRST))
        day = 3
        self.refused(server, day, None, BadDay, day)
        self.refused(server, "4", [], BadDay, "4")

    def test_after_a_refusal_it_goes_on(self):
        server = server_of((3, FIRST))
        self.refused(server, 9, None, BadTable, None)
        server.set_table(4, SECOND)
        self.assertEqual(server.days, [3, 4])


class InForce(unittest.TestCase):
    SERVER = server_of((2, FIRST), (5, SECOND), (LATE, FIRST))

    def test_table(self):
        for day, due in ((0, Table()), (1, Table()), (2, FIRST), (4, FIRST), (5, SECOND), (6, SECOND),
                         (LATE - 1, SECOND), (LATE, FIRST)):
            self.assertEqual(self.SERVER.table(day), due)
            self.assertIsInstance(self.SERVER.table(day), Table)
        self.assertEqual(Server().table(7), Table())

    def test_answer(self):
        for day, due in ((0, ("nothing",)), (1, ("nothing",)), (2, ("to", ("y",), 30)), (5, ("page", "p")),
                         (LATE, ("to", ("y",), 30))):
            self.assertEqual(self.SERVER.answer(("x",), day), due)
            self.assertEqual(self.SERVER.answer(["x"], day), due)
        self.assertEqual(Server().answer((), 0), ("nothing",))
        self.assertEqual(self.SERVER.answer(("zz",) * 5000, 2), ("nothing",))

    def test_sources(self):
        for day, due in ((0, [(Table(), 0)]), (1, [(Table(), 0)]), (2, [(FIRST, 0)]), (4, [(FIRST, 0)]),
                         (5, [(SECOND, 0), (FIRST, 1)]), (6, [(SECOND, 0), (FIRST, 2)]),
                         (LATE, [(FIRST, 0), (SECOND, 1), (FIRST, LATE - 4)])):
            self.assertEqual(self.SERVER.sources(day), due)
        self.assertEqual(Server().sources(9), [(Table(), 0)])
        self.assertEqual(server_of((0, FIRST), (1, SECOND)).sources(1), [(SECOND, 0), (FIRST, 1)])

    def test_equal_tables_are_told_apart(self):
        self.assertEqual(server_of((3, FIRST), (5, FIRST)).sources(6), [(FIRST, 0), (FIRST, 2)])

    def test_what_is_returned_is_the_callers(self):
        server = self.SERVER.copied()
        server.days.append(7)
        server.sources(6).clear()
        server.kept(("x",), 6).append("y")
        self.assertEqual(server.days, [2, 5, LATE])
        self.assertEqual(server.sources(6), [(SECOND, 0), (FIRST, 2)])
        self.assertEqual(server.kept(("x",), 6), [("y",)])
        with self.assertRaises(AttributeError):
            server.days = []


class Kept(unittest.TestCase):
    def test_example(self):
        server = server_of((2, FIRST), (5, SECOND))
        self.assertEqual([server.kept(("x",), 34), server.kept(("x",), 35), server.kept(("y",), 5)], [[("y",)], [], []])

    def test_ahead_of_all_tables(self):
        server = server_of((2, FIRST))
        for day in (0, 1):
            self.assertEqual(server.kept(("x",), day), [])
        self.assertEqual(server.kept(("x",), 2), [("y",)])
        self.assertEqual(Server().kept((), 3), [])

    def test_a_lasting_answer_of_the_day(self):
        for days in (1, 10000):
            server = server_of((3, Table([("open", (), ("to", ("a",), days))])))
            for day in (3, 4, LATE):
                self.assertEqual(server.kept((), day), [("a",)])
                self.assertEqual(server.kept(("b", "c"), day), [("a", "b", "c")])

    def test_passing_redirects_are_not_kept(self):
        server = server_of((3, Table([("open", (), ("to", ("a",), 0))])), (4, Table()))
        self.assertEqual([server.kept((), 3), server.kept((), 4)], [[], []])

    def test_until_when(self):
        for days in (1, 2, 10000):
            server = server_of((0, Table([("exact", ("a",), ("to", ("b",), days))])), (50, Table()))
            self.assertEqual(server.kept(("a",), 49), [("b",)])
            self.assertEqual(server.kept(("a",), 49 + days), [("b",)])
            self.assertEqual(server.kept(("a",), 50 + days), [])

    def test_ends_are_not_kept(self):
        server = server_of((0, Table([("exact", ("a",), ("page", "p")), ("open", ("a",), ("section", "s"))])),
                           (1, Table([("open", ("a",), ("gone",))])))
        self.assertEqual([server.kept(("a",), 1), server.kept(("a", "b"), 1)], [[], []])

    def test_in_order_and_each_once(self):
        targets = [("b",), ("a", "a"), ("aa",), ("b",), (), ("c",)]
        server = server_of(*[(day, Table([("exact", ("x",), ("to", target, 9))])) for day, target in enumerate(targets)])
        self.assertEqual(server.kept(("x",), 6), [(), ("aa",), ("b",), ("c",), ("a", "a")])
        self.assertEqual(server.kept(["x"], 6), [(), ("aa",), ("b",), ("c",), ("a", "a")])

    def test_against_all_days(self):
        pick = random.Random(9)
        seen = set()
        for _ in range(60):
            server = Server()
            for day in sorted(pick.sample(range(12), pick.randrange(5))):
                server.set_table(day, some_table(pick, "ab", 4, longest=1, ends=1, days=(0, 1, 2, 5, 9)))
            for day in range(20):
                for address in all_addresses("ab", 2):
                    due = set()
                    for told in range(day + 1):
                        answer = server.answer(address, told)
                        if answer[0] == "to" and answer[2] > 0 and day <= told + answer[2]:
                            due.add(answer[1])
                    self.assertEqual(server.kept(address, day), sorted(due, key=key))
                    seen.add(len(due))
        self.assertGreater(len(seen), 2)


class Compared(unittest.TestCase):
    def test_copied(self):
        server = server_of((2, FIRST), (5, SECOND))
        other = server.copied()
        self.assertIsInstance(other, Server)
        self.assertIsNot(other, server)
        self.assertIs(server == other, True)
        other.set_table(6, FIRST)
        self.assertEqual(server.days, [2, 5])
        self.assertIs(server == other, False)
        server.drop_after(0)
        self.assertEqual(other.days, [2, 5, 6])
        self.assertEqual(Server().copied(), Server())

    def test_equal(self):
        self.assertIs(server_of((2, FIRST)) == server_of((2, Table(FIRST.rules[::-1]))), True)
        self.assertIs(server_of((2, FIRST)) != server_of((2, FIRST)), False)
        self.assertIs(Server() == Server(), True)
        for other in (Server(), server_of((3, FIRST)), server_of((2, SECOND)), server_of((2, FIRST), (3, FIRST))):
            self.assertIs(server_of((2, FIRST)) == other, False)
            self.assertIs(other == server_of((2, FIRST)), False)

    def test_equal_with_any_values(self):
        for value in (*ANY_VALUES, FIRST, [(2, FIRST)]):
            self.assertIs(server_of((2, FIRST)) == value, False)
            self.assertIs(Server() == value, False)

    def test_drop_after(self):
        for day, due in ((0, []), (1, []), (2, [2]), (4, [2]), (5, [2, 5]), (LATE - 1, [2, 5]), (LATE, [2, 5, LATE])):
            server = server_of((2, FIRST), (5, SECOND), (LATE, FIRST))
            self.assertIsNone(server.drop_after(day))
            self.assertEqual(server.days, due)
        server = server_of((2, FIRST), (5, SECOND))
        server.drop_after(4)
        self.assertEqual(server.table(9), FIRST)
        self.assertEqual(server, server_of((2, FIRST)))
        server.set_table(3, SECOND)
        self.assertEqual(server.days, [2, 3])
        empty = Server()
        empty.drop_after(0)
        self.assertEqual(empty, Server())


if __name__ == "__main__":
    unittest.main()
