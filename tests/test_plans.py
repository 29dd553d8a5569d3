"""Point 20 and plans.py: what is safe from some day on, and for how many days redirects may be told."""

import random
import unittest

from leadsever.errors import BadDay, BadRule
from leadsever.plans import blamed, first_unsafe, free_from, longest
from leadsever.safe import wrong_address
from leadsever.servers import Server
from leadsever.sites import Site
from leadsever.tables import Table
from plain import all_addresses
from served import (BACK_AND_FORTH, FIRST, MOVED, SECOND, days_of, exact, move, moving_plan, open_, put, server_of, site_of,
                    some_plan, some_server, take, to)
from test_rules import ANY_VALUES

LATE = 1000000


def told(server, day, rule, days):
    """The server with a redirect of a day told for some days."""
    found = Server()
    for each in server.days:
        table = server.table(each)
        found.set_table(each, table.with_rule((*rule[:2], ("to", rule[2][1], days))) if each == day else table)
    return found


def plain_first_unsafe(server, site, day, until):
    """By looking at each day."""
    for each in range(day, until + 1):
        if wrong_address(server, site, each) is not None:
            return each
    return None


class FirstUnsafe(unittest.TestCase):
    def check(self, server, site, day, due):
        before = (server.copied(), site.copied())
        self.assertEqual(first_unsafe(server, site, day), due)
        self.assertEqual(first_unsafe(day=day, site=site, server=server), due)
        self.assertEqual((server, site), before)

    def test_example(self):
        for day, due in ((0, 1), (1, 1), (2, 5), (4, 5), (5, 5), (6, 6), (34, 34), (35, None), (LATE, None)):
            self.check(BACK_AND_FORTH, MOVED, day, due)

    def test_without_anything(self):
        self.check(Server(), Site(), 0, None)
        self.check(BACK_AND_FORTH.copied(), Site(), 0, 5)

    def test_what_happens_on_a_later_day_than_any_table(self):
        server = server_of((0, [exact("p", "page", "p")]))
        site = site_of(put(0, "page", "p", "p"), move(9, "p", "q"))
        for day, due in ((0, 9), (8, 9), (9, 9), (10, 10)):
            self.check(server, site, day, due)
        site = site_of(put(0, "page", "p", "p"), take(7, "p"))
        self.check(server, site, 0, 7)

    def test_a_table_on_a_later_day_than_anything_happens(self):
        server = server_of((0, [exact("p", "page", "p")]), (9, []))
        site = site_of(put(0, "page", "p", "p"))
        for day, due in ((0, 9), (8, 9), (9, 9), (10, 10)):
            self.check(server, site, day, due)
        server = server_of((0, [exact("p", "page", "p"), exact("o", *to("p", 10))]), (9, [exact("p", *to("o"))]))
        self.check(server, site_of(), 0, 9)
        self.check(server, site_of(), 18, 18)
        self.check(server, site_of(), 19, None)

    def test_by_looking_at_each_day(self):
        pick = random.Random(41)
        seen = set()
        for _ in range(80):
            server, site = some_plan(pick, "ab", pick.choice([4, 10]), odd=pick.choice([0, 0.3]))
            days = days_of(server, site)
            for day in {0, days[len(days) // 2], days[-1], days[-1] + 5}:
                due = plain_first_unsafe(server, site, day, days[-1] + 60)
                self.check(server, site, day, due)
                seen.add(None if due is None else due - day)
        self.assertGreater(len(seen), 4)


class Longest(unittest.TestCase):
    def check(self, server, site, day, rule, due):
        before = (server.copied(), site.copied())
        self.assertEqual(longest(server, site, day, rule), due)
        self.assertEqual(longest(rule=rule, day=day, site=site, server=server), due)
        self.assertEqual((server, site), before)

    def test_example(self):
        # With any days more than none, a reader may come back from y to x on the day 5.
        site = site_of(put(2, "page", "p", "x"), move(2, "p", "y"), move(5, "p", "x"))
        self.check(BACK_AND_FORTH, site, 2, FIRST.rules[0], 0)
        self.check(BACK_AND_FORTH, site, 5, SECOND.rules[1], None)

    def plan(self, days, *events):
        first = [exact("y", "page", "p"), exact("x", *to("y", days))]
        last = [exact("z", "page", "p"), exact("x", *to("z")), exact("y", *to("z"))]
        return server_of((3, first), (7, last)), site_of(put(0, "page", "p", "x"), move(3, "p", "y"), move(7, "p", "z"), *events)

    def test_10000(self):
        server, site = self.plan(5)
        self.check(server, site, 3, exact("x", *to("y", 5)), 10000)
        self.check(server, site, 7, exact("x", *to("z")), 10000)
        self.check(server, site, 7, exact("y", *to("z")), 10000)

    def test_none(self):
        server, site = self.plan(5, take(9, "p"))
        self.check(server, site, 3, exact("x", *to("y", 5)), None)
        server, site = self.plan(5)
        server.set_table(9, Table())
        self.check(server, site, 7, exact("x", *to("z")), None)
        # Only days from its own one on count: on the days ahead of it, nothing answers.
        server, site = self.plan(5)
        self.assertIsNotNone(wrong_address(server, site, 0))
        self.check(server, site, 3, exact("x", *to("y", 5)), 10000)
        # On the day 7, nothing answers the page's old place y any more.
        site = site_of(put(0, "page", "p", "x"), move(3, "p", "y"), move(7, "p", "z"))
        for days in (0, 1, 10000):
            rule = exact("x", *to("y", days))
            server = server_of((3, [exact("y", "page", "p"), rule]), (7, [exact("z", "page", "p"), exact("x", *to("z"))]))
            self.check(server, site, 3, rule, None)

    def test_the_last_day_on_which_it_may_be_remembered(self):
        site = site_of(put(0, "page", "p", "x"), move(3, "p", "z"))
        own = exact("z", "page", "p")
        for stop, new in ((4, 5), (4, 9), (5, 9), (4, 10003), (4, 10004), (4, 10005), (50, 20000)):
            server = server_of((3, [own, exact("x", *to("v", 7)), exact("v", *to("z"))]),
                               (stop, [own, exact("x", *to("z")), exact("v", *to("z"))]), (new, [own, exact("x", *to("z"))]))
            # In force for the last time on the day ahead of stop, it may be remembered up to the day ahead of new.
            self.check(server, site, 3, exact("x", *to("v", 7)), min(new - 1 - (stop - 1), 10000))

    def test_the_table_that_stays_in_force(self):
        # What happens later is wrong for each reader who asks, however long the redirect lasts.
        server = server_of((3, [exact("y", "page", "p"), exact("x", *to("y", 5))]))
        site = site_of(put(0, "page", "p", "x"), move(3, "p", "y"))
        self.check(server, site, 3, exact("x", *to("y", 5)), 10000)
        site.take(8, "p")
        self.check(server, site, 3, exact("x", *to("y", 5)), None)

    def test_what_it_tells_now_does_not_matter(self):
        for days in (0, 1, 9, 10000):
            server, site = self.plan(days)
            self.check(server, site, 3, exact("x", *to("y", days)), 10000)
            server = server_of((2, [exact("x", *to("y", days)), exact("y", "page", "p")]), (5, SECOND))
            self.check(server, site_of(put(2, "page", "p", "y"), move(5, "p", "x")), 2, exact("x", *to("y", days)), 0)

    def refused(self, server, site, day, rule, error, value):
        before = (server.copied(), site.copied())
        with self.assertRaises(error) as caught:
            longest(server, site, day, rule)
        self.assertIs(type(caught.exception), error)
        self.assertIs(caught.exception.value, value)
        self.assertEqual((server, site), before)

    def test_bad_days(self):
        rule = FIRST.rules[0]
        for day in (*[value for value in ANY_VALUES], 3, 4, 6, LATE, LATE + 1, "2", (2,), [2]):
            if isinstance(day, bool) or day != 2:
                self.refused(BACK_AND_FORTH, MOVED, day, rule, BadDay, day)
        server = server_of((0, FIRST), (1, SECOND))
        for day in (False, True):
            self.refused(server, MOVED, day, rule, BadDay, day)
        self.refused(Server(), Site(), 0, rule, BadDay, 0)

    def test_bad_rules(self):
        for rule in (*ANY_VALUES, *FIRST.rules[1:], *SECOND.rules, exact("x", *to("y")), exact("x", *to("y", 29)), open_("x", *to("y", 30)),
                     list(FIRST.rules[0]), ("exact", ["x"], ("to", ("y",), 30)), ("exact", ("x",), ["to", ("y",), 30]), FIRST):
            self.refused(BACK_AND_FORTH, MOVED, 2, rule, BadRule, rule)
        server = server_of((0, [exact("x", *to("y", 1)), exact("z", *to("y", 0)), exact("g", "gone")]))
        for rule in (exact("x", *to("y", True)), exact("z", *to("y", False)), exact("g", "gone")):
            self.refused(server, Site(), 0, rule, BadRule, rule)

    def test_the_day_is_told_first(self):
        day = "2"
        self.refused(BACK_AND_FORTH, MOVED, day, None, BadDay, day)

    def test_against_first_unsafe(self):
        pick = random.Random(42)
        seen = set()
        for _ in range(150):
            server, site = moving_plan(pick)
            for day in server.days:
                for rule in server.table(day).rules:
                    if rule[2][0] == "to":
                        found = longest(server, site, day, rule)
                        seen.add(found)
                        if found is None:
                            self.assertIsNotNone(first_unsafe(told(server, day, rule, 0), site, day))
                        else:
                            self.assertIsNone(first_unsafe(told(server, day, rule, found), site, day))
                            if found < 10000:
                                self.assertIsNotNone(first_unsafe(told(server, day, rule, found + 1), site, day))
        self.assertTrue({None, 0, 10000} < seen)
        self.assertGreater(len(seen), 5)


class FreeFrom(unittest.TestCase):
    def check(self, server, address, day, due):
        before = server.copied()
        self.assertEqual(free_from(server, address, day), due)
        self.assertEqual(free_from(day=day, address=list(address), server=server), due)
        self.assertEqual(server, before)

    def test_example(self):
        for address, day, due in ((("x",), 0, 35), (("y",), 40, 40), (("x",), 34, 35), (("x",), 35, 35), (("x",), 36, 36),
                                  (("y",), 0, 0), ((), 7, 7), (("zz",) * 5000, 9, 9)):
            self.check(BACK_AND_FORTH, address, day, due)

    def test_without_tables(self):
        self.check(Server(), ("x",), 0, 0)
        self.check(Server(), (), LATE, LATE)

    def test_a_lasting_answer_of_the_last_table(self):
        for days in (1, 10000):
            server = server_of((3, [open_("x", *to("y", days))]))
            for day in (0, 3, LATE):
                self.check(server, ("x", "z"), day, None)
                self.check(server, ("y",), day, day)
            server.set_table(5, Table([open_("x", *to("y"))]))
            self.check(server, ("x", "z"), 0, 4 + days + 1)
        self.check(server_of((3, [open_("x", *to("y"))])), ("x",), 0, 0)

    def test_later_than_all_days(self):
        server = server_of((3, [exact("x", *to("y", 10000))]), (LATE, []))
        for day in (0, 3, LATE):
            self.check(server, ("x",), day, LATE - 1 + 10000 + 1)

    def test_what_was_told_for_longer_ahead(self):
        server = server_of((0, [exact("x", *to("y", 100))]), (10, [exact("x", *to("z", 3))]), (20, [exact("x", "gone")]))
        self.check(server, ("x",), 0, 110)
        server = server_of((0, [exact("x", *to("y", 5))]), (10, [exact("x", *to("z", 3))]), (20, [exact("x", "gone")]))
        self.check(server, ("x",), 0, 23)

    def test_later_tables_count(self):
        # Free for some days between, but not from then on.
        server = server_of((0, [exact("x", *to("y", 2))]), (1, []), (50, [exact("x", *to("y", 2))]), (60, []))
        for day, due in ((0, 62), (10, 62), (61, 62), (62, 62), (63, 63)):
            self.check(server, ("x",), day, due)

    def test_by_what_may_be_kept(self):
        pick = random.Random(43)
        seen = set()
        for _ in range(120):
            server = some_server(pick)
            if pick.random() < 0.7:
                server.set_table(server.days[-1] + pick.choice([1, 4]), Table())
            for address in all_addresses("abc", 1):
                day = pick.choice([0, 1, 3, 50, 101, 110])
                found = free_from(server, address, day)
                seen.add(found)
                if found is None:
                    self.assertNotEqual(server.kept(address, 10 ** 6), [])
                else:
                    self.assertTrue(all(server.kept(address, each) == [] for each in range(found, found + 120)))
                    self.assertTrue(found == day or server.kept(address, found - 1) != [])
        self.assertGreater(len(seen), 5)


class Blamed(unittest.TestCase):
    def check(self, server, site, day, due):
        before = (server.copied(), site.copied())
        self.assertEqual(blamed(server, site, day), due)
        self.assertEqual(blamed(day=day, site=site, server=server), due)
        self.assertEqual((server, site), before)

    def test_example(self):
        for day, due in ((0, []), (1, []), (2, []), (4, []), (5, [(2, FIRST.rules[0])]), (34, [(2, FIRST.rules[0])]), (35, [])):
            self.check(BACK_AND_FORTH, MOVED, day, due)

    def test_what_is_unsafe_without_old_tables(self):
        server = server_of((0, [exact("x", *to("y", 9))]), (3, []))
        self.check(server, site_of(put(0, "page", "p", "z")), 3, [])
        self.check(server, site_of(put(0, "page", "p", "x")), 1, [])
        self.check(Server(), site_of(put(0, "page", "p", "x")), 1, [])
        # A rule of the table in force is not blamed.
        self.check(server_of((0, [exact("x", *to("x", 9))])), Site(), 3, [])

    def test_two_that_are_wrong_alone(self):
        site = site_of(put(0, "page", "p", "p"), put(0, "page", "q", "q"))
        own = [exact("p", "page", "p"), exact("q", "page", "q")]
        server = server_of((0, [*own[1:], exact("p", *to("a", 9))]), (3, [*own[:1], exact("q", *to("a", 9))]), (5, own))
        self.check(server, site, 5, [])
        self.check(server, site, 11, [])
        # The first one is forgotten, so the second one alone is to be blamed.
        self.check(server, site, 12, [(3, exact("q", *to("a", 9)))])
        self.check(server, site, 14, [])

    def test_two_that_are_wrong_together(self):
        own = [exact("p", "page", "p")]
        rules = [exact("b", *to("c", 30)), exact("c", *to("b", 20)), exact("a", *to("b", 10))]
        server = server_of((0, rules[:1]), (3, rules[1:]), (5, own))
        site = site_of(put(0, "page", "p", "p"))
        self.check(server, site, 5, [(0, rules[0]), (3, rules[1])])
        self.check(server, site, 24, [(0, rules[0]), (3, rules[1])])
        self.check(server, site, 25, [])

    def test_in_order(self):
        own = [exact("p", "page", "p")]
        rules = [open_("c", *to("d", 30)), exact("bb", *to("c", 30)), exact("a", *to("bb", 30)), open_("d", *to("bb", 30))]
        exact_c = exact("c", *to("d", 30))
        server = server_of((2, [*rules[2:], *rules[:2]]), (5, own))
        site = site_of(put(0, "page", "p", "p"), put(0, "page", "r", "r"), take(0, "r"))
        self.check(server, site, 5, [(2, rules[0]), (2, rules[3]), (2, rules[1])])
        server = server_of((2, [*rules[2:], rules[1], exact_c, rules[0]]), (5, own))
        self.check(server, site, 5, [(2, exact_c), (2, rules[3]), (2, rules[1])])
        server = server_of((2, rules[3:]), (3, rules[1:2]), (4, rules[:1]), (6, own))
        self.check(server, site, 6, [(2, rules[3]), (3, rules[1]), (4, rules[0])])

    def test_passing_ones_and_other_rules(self):
        own = [exact("p", "page", "p")]
        server = server_of((0, [exact("p", *to("a", 0)), exact("a", "gone")]), (3, [exact("p", *to("a", 9)), open_("b", *to("c", 9))]),
                           (5, own))
        self.check(server, site_of(put(0, "page", "p", "p")), 5, [(3, exact("p", *to("a", 9)))])

    def test_the_same_rule_in_two_tables(self):
        own = [exact("p", "page", "p")]
        rule = exact("p", *to("a", 9))
        site = site_of(put(0, "page", "p", "p"))
        server = server_of((0, [rule]), (3, [rule]), (5, own))
        self.check(server, site, 5, [])
        self.check(server, site, 12, [(3, rule)])

    def test_a_wrong_walk_of_very_many_redirects(self):
        # From z there are more than 2 ** 36 redirects to what is behind it.
        rules = [open_("a", *to("")), *[open_(two, *to((one,) * 4)) for one, two in zip("abcdefghijklmnopqrstuvwxy", "bcdefghijklmnopqrstuvwxyz")]]
        own = exact(["home"], "page", "p")
        lasting = [exact(["home"], *to(["z", "end"], 20)), exact(["other"], *to(["home"], 20)), exact(["away"], *to(["z"], 3))]
        server = server_of((0, [*rules, *lasting]), (5, [*rules, own]), (8, [*rules, own, exact(["other"], "gone")]))
        site = site_of((0, "put", "page", "p", ("home",)))
        for day, due in ((4, []), (5, [(0, lasting[0])]), (7, [(0, lasting[0])]), (24, [(0, lasting[0])]), (25, [])):
            self.check(server, site, day, due)
        # On the day 0 nothing is at home; from the day 5 on, it may not be remembered that it was elsewhere.
        self.assertEqual(longest(server, site.copied(), 0, lasting[0]), None)
        self.assertEqual([first_unsafe(server, site, day) for day in (0, 5, 25)], [0, 5, None])

    def test_a_day_of_an_older_table(self):
        # Only tables that came into force ahead of the one in force on the day count.
        self.check(BACK_AND_FORTH, site_of(put(0, "page", "p", "x")), 3, [])

    def test_against_trying_each(self):
        pick = random.Random(44)
        many = 0
        for _ in range(200):
            server, site = moving_plan(pick)
            day = server.days[-1] + pick.choice([0, 0, 1, 3])
            due = []
            if wrong_address(server, site, day) is not None:
                for each in [each for each in server.days if each <= day][:-1]:
                    for rule in server.table(each).rules:
                        if rule[2][0] == "to" and rule[2][2] > 0:
                            if wrong_address(told(server, each, rule, 0), site, day) is None:
                                due.append((each, rule))
            self.check(server, site, day, due)
            many += len(due)
        self.assertGreater(many, 10)

    def test_what_is_returned_is_the_callers(self):
        blamed(BACK_AND_FORTH, MOVED, 5).clear()
        self.check(BACK_AND_FORTH, MOVED, 5, [(2, FIRST.rules[0])])


if __name__ == "__main__":
    unittest.main()
