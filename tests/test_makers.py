"""Point 20 and makers.py: plans that are made; and what is promised of the whole."""

import random
import unittest

from leadsever.fewest import fewest_table
from leadsever.heirs import fits, heir
from leadsever.makers import made_plan
from leadsever.plans import first_unsafe, longest
from leadsever.readers import Reader
from leadsever.rights import is_right_paper, right_paper
from leadsever.safe import wrong_address
from leadsever.servers import Server
from leadsever.sites import Site
from leadsever.tables import Table
from plain import all_addresses
from served import days_of, exact, move, moving_plan, open_, put, site_of, some_plan, take, to

# A page that moves on and on, and back at last.
WANDERING = site_of(put(2, "page", "p", "x"), move(4, "p", "y"), move(8, "p", "z"), move(20, "p", "x"))


def told(server, day, rule, days):
    """The server with a redirect of a day told for some days."""
    found = Server()
    for each in server.days:
        table = server.table(each)
        found.set_table(each, table.with_rule((*rule[:2], ("to", rule[2][1], days))) if each == day else table)
    return found


def plain_plan(site, day, wished):
    """What made_plan is to return, by trying all numbers of days, the greatest ones first."""
    server = Server()
    for each in sorted({day, *[event[0] for event in site.events() if event[0] > day]}):
        table = fewest_table(site.at(each), inside=True)
        if table is None:
            return None
        server.set_table(each, table)
    for each in server.days:
        for rule in server.table(each).rules:
            if rule[2][0] == "to":
                days = wished
                while first_unsafe(told(server, each, rule, days), site, day) is not None:
                    days -= 1
                server = told(server, each, rule, days)
    return server


class Made(unittest.TestCase):
    def check(self, site, day, wished):
        """Checks all that is promised of the plan, and returns it."""
        before = site.copied()
        plan = made_plan(site, day, wished)
        self.assertEqual(made_plan(wished=wished, site=site, day=day), plan)
        self.assertEqual(site, before)
        happened = sorted({event[0] for event in site.events() if event[0] > day})
        if plan is None:
            self.assertIn(None, [fewest_table(site.at(each), inside=True) for each in [day, *happened]])
            return None
        self.assertIsInstance(plan, Server)
        self.assertEqual(plan.days, [day, *happened])
        self.assertIsNone(first_unsafe(plan, site, day))
        for each in plan.days:
            table = plan.table(each)
            passing = Table([rule if rule[2][0] != "to" else (*rule[:2], ("to", rule[2][1], 0)) for rule in table.rules])
            self.assertEqual(passing, fewest_table(site.at(each), inside=True))
            for rule in table.rules:
                if rule[2][0] == "to":
                    self.assertLessEqual(rule[2][2], wished)
                    if rule[2][2] < wished:
                        self.assertIsNotNone(first_unsafe(told(plan, each, rule, rule[2][2] + 1), site, day))
        return plan

    def test_without_anything(self):
        for day in (0, 7, 10 ** 6):
            plan = self.check(Site(), day, 10000)
            self.assertEqual((plan.days, plan.table(day)), ([day], Table()))

    def test_a_page_that_comes_back(self):
        plan = self.check(WANDERING, 0, 10000)
        self.assertEqual(plan.days, [0, 2, 4, 8, 20])
        # From x readers must not go away on the day 20; until the day 7, they are told of it.
        self.assertEqual(plan.table(4).rules, (exact("x", *to("y", 12)), exact("y", "page", "p")))
        self.assertEqual(plan.table(8).rules, (exact("x", *to("z", 0)), exact("y", *to("z", 10000)), exact("z", "page", "p")))
        self.assertEqual(plan.table(20).rules, (exact("x", "page", "p"), exact("y", *to("x", 10000)), exact("z", *to("x", 10000))))

    def test_wished(self):
        for wished in (0, 1, 11, 12, 13, 100):
            plan = self.check(WANDERING, 0, wished)
            self.assertEqual(plan.table(4).rules[0], exact("x", *to("y", min(wished, 12))))
            self.assertEqual(plan.table(20).rules[1], exact("y", *to("x", wished)))

    def test_from_a_day_on(self):
        plan = self.check(WANDERING, 4, 10000)
        self.assertEqual((plan.days, len(plan.table(4))), ([4, 8, 20], 2))
        plan = self.check(WANDERING, 9, 30)
        self.assertEqual(plan.days, [9, 20])
        plan = self.check(WANDERING, 20, 30)
        self.assertEqual(plan.days, [20])
        plan = self.check(WANDERING, 999, 30)
        self.assertEqual((plan.days, len(plan.table(999))), ([999], 3))
        self.assertEqual(self.check(WANDERING, 1, 30).table(1), Table())

    def test_at_the_end_of_a_day(self):
        site = site_of(put(1, "page", "p", "x"), move(3, "p", "y"), move(3, "p", "z"), put(3, "page", "q", "x"))
        plan = self.check(site, 0, 5)
        self.assertEqual(plan.table(3).rules, (exact("x", "page", "q"), exact("y", *to("z", 5)), exact("z", "page", "p")))

    def test_none(self):
        site = site_of(put(0, "section", "s", "a", "b"), move(5, "s", "a"), move(9, "s", "c"))
        self.assertIsNone(fewest_table(site.at(5), inside=True))
        for day, due in ((0, None), (5, None), (8, None)):
            self.assertIsNone(self.check(site, day, 3))
        self.assertEqual(made_plan(site, 9, 3) is None, fewest_table(site, inside=True) is None)
        site = site_of(put(0, "section", "s", "a", "b"), move(5, "s", "a"), take(9, "s"))
        self.assertIsNone(self.check(site, 0, 3))
        self.assertEqual(self.check(site, 9, 3).days, [9])

    def test_to_and_fro(self):
        site = site_of(put(0, "page", "p", "a"), move(2, "p", "b"), move(4, "p", "a"), move(6, "p", "b"))
        plan = self.check(site, 0, 20)
        self.assertEqual(plan, plain_plan(site, 0, 20))
        self.assertEqual([plan.table(day).rules for day in (2, 4, 6)],
                         [(exact("a", *to("b", 0)), exact("b", "page", "p")), (exact("a", "page", "p"), exact("b", *to("a", 0))),
                          (exact("a", *to("b", 20)), exact("b", "page", "p"))])

    def test_inside(self):
        # No other open rule is there for addresses that have no heir.
        site = site_of(*[put(0, "page", name, "a", name) for name in "xyz"], *[move(2, name, "b", name) for name in "xyz"])
        self.assertEqual(len(fewest_table(site)), 4)
        plan = self.check(site, 0, 9)
        self.assertEqual(plan.table(2).rules[:3], tuple(exact("a" + name, *to("b" + name, 9)) for name in "xyz"))

    def test_sections(self):
        site = site_of(put(0, "section", "s", "a"), put(0, "page", "p", "a", "x"), move(3, "s", "b"), move(7, "p", "b", "x"),
                       move(9, "s", "a"))
        plan = self.check(site, 0, 10000)
        self.assertEqual(plan.table(3).rules[0], open_("a", *to("b", 2)))

    def test_the_words_of_the_document(self):
        pick = random.Random(54)
        seen = set()
        for _ in range(60):
            site = moving_plan(pick)[1]
            day = pick.choice([0, 0, 2])
            wished = pick.choice([0, 1, 4, 12])
            plan = self.check(site, day, wished)
            self.assertEqual(plan, plain_plan(site, day, wished))
            if plan is not None:
                seen.update(rule[2][2] for each in plan.days for rule in plan.table(each).rules if rule[2][0] == "to")
        self.assertGreater(len(seen), 4)

    def test_more_things(self):
        pick = random.Random(55)
        plans = 0
        for _ in range(40):
            site = some_plan(pick, pick.choice(["a", "ab", "abc"]), pick.choice([5, 10]), longest=pick.choice([1, 2]))[1]
            plans += self.check(site, 0, pick.choice([3, 10000])) is not None
        self.assertGreater(plans, 20)

    def test_what_is_returned_is_the_callers(self):
        plan = made_plan(WANDERING, 0, 9)
        plan.drop_after(2)
        self.assertEqual(made_plan(WANDERING, 0, 9).days, [0, 2, 4, 8, 20])


class Whole(unittest.TestCase):
    """What the package promises over all: with a plan that is made, nobody is led astray."""

    def test_on_each_day(self):
        pick = random.Random(56)
        plans = 0
        while plans < 15:
            site = moving_plan(pick)[1]
            plan = made_plan(site, 0, pick.choice([3, 7, 10000]))
            if plan is not None:
                plans += 1
                for day in range((site.last or 0) + 15):
                    self.assertIsNone(wrong_address(plan, site, day))
                for day in days_of(plan, site):
                    self.assertIs(is_right_paper(plan, site, day, right_paper(plan, site, day)), True)

    def test_readers_with_any_visits(self):
        pick = random.Random(57)
        plans, used = 0, 0
        while plans < 30:
            site = moving_plan(pick)[1]
            plan = made_plan(site, 0, pick.choice([3, 7, 10000]))
            if plan is None:
                continue
            plans += 1
            for _ in range(8):
                reader, day = Reader(plan), 0
                while day < (site.last or 0) + 12:
                    now = site.at(day)
                    for address in all_addresses("abc", 2):
                        due = heir(now, address)
                        walk, end = reader.follow(address, day, steps=50)
                        self.assertIsNotNone(end)
                        used += walk[-1] != address and reader.memory(day) != {}
                        if due is not None:
                            self.assertIs(fits(end, due), True)
                    for _ in range(pick.randrange(4)):
                        address = tuple(pick.choice("ab") for _ in range(pick.choice([0, 1, 1, 2, 3])))
                        if pick.random() < 0.8:
                            reader.ask(address, day)
                        else:
                            reader.forget(address)
                    day += pick.choice([1, 1, 2])
        self.assertGreater(used, 100)

    def test_longer_is_not_safe(self):
        # What longest tells for the first redirect is what the plan has, as long as the others are passing.
        plan = made_plan(WANDERING, 0, 0)
        self.assertEqual(longest(plan, WANDERING, 4, plan.table(4).rules[0]), 12)


if __name__ == "__main__":
    unittest.main()
