"""Points 17 to 19: which addresses are wrong, and ways that show it."""

import copy
import random
import unittest

from leadsever.errors import NotSafe
from leadsever.heirs import claims_table, heir
from leadsever.readers import Reader
from leadsever.safe import is_wrong_way, need_safe, wrong_address, wrong_way
from leadsever.servers import Server
from leadsever.sites import Site
from leadsever.tables import Table
from happened import plain_heir
from plain import plain_is_round, plain_joints
from served import (BACK_AND_FORTH, MOVED, days_of, exact, move, open_, plain_allowed, plain_fits, plain_is_wrong_way,
                    plain_wrong_address, put, server_of, site_of, some_plan, some_server, take, to)
from test_rules import ANY_VALUES
from test_walks import LETTERS, counter

LATE = 1000000
WAY = (("x",), [(4, ("x",))], [("x",), ("y",), ("x",)], (0, 2, 1))
OWN_PAGE = [exact("p", "page", "p")]
PAGE = put(0, "page", "p", "p")


def has_round(walk, places):
    """Whether a walk has a round that ends with it."""
    j = len(walk) - 1
    return any(plain_is_round((i, j, n), walk, places) for i in range(j) for n in range(len(walk[i]) + 1))


class SafeTest(unittest.TestCase):
    def check(self, server, site, day, due, walk=None, round_about=None):
        """Checks the least wrong address, and its way if a walk is told."""
        before = (server.copied(), site.copied())
        self.assertEqual(wrong_address(server, site, day), due)
        self.assertEqual(wrong_address(day=day, site=site, server=server), due)
        way = wrong_way(server, site, day)
        if due is None:
            self.assertIsNone(way)
            self.assertIsNone(need_safe(server, site, day))
        else:
            self.assertEqual(way[0], due)
            self.assertIs(is_wrong_way(server, site, day, way), True, way)
            self.assertIs(is_wrong_way(value=way, day=day, site=site, server=server), True)
            with self.assertRaises(NotSafe) as caught:
                need_safe(day=day, site=site, server=server)
            self.assertEqual(caught.exception.way, way)
            if walk is not None:
                self.assertEqual((way[2], way[3] is not None), (walk, bool(round_about)))
        self.assertEqual((server, site), before)
        self.assertEqual(wrong_way(day=day, site=site, server=server), way)
        return way


class WrongAddress(SafeTest):
    def test_example(self):
        for day, due in ((4, None), (5, ("x",)), (34, ("x",)), (35, None), (LATE, None)):
            self.check(BACK_AND_FORTH, MOVED, day, due)

    def test_the_site_as_it_is_on_the_day(self):
        self.check(BACK_AND_FORTH, MOVED, 0, None)
        self.check(BACK_AND_FORTH, MOVED, 1, ("x",), [("x",)])
        self.check(BACK_AND_FORTH, MOVED, 2, None)

    def test_without_anything(self):
        for server in (Server(), server_of((3, OWN_PAGE))):
            for day in (0, 2, 3, LATE):
                self.check(server, Site(), day, None)

    def test_a_server_without_tables(self):
        self.check(Server(), site_of(PAGE), 0, ("p",), [("p",)])
        self.check(Server(), site_of(put(0, "section", "s")), 7, (), [()])
        # What is gone may be answered with nothing.
        self.check(Server(), site_of(PAGE, take(1, "p")), 1, None)

    def test_ahead_of_the_first_table(self):
        server = server_of((5, OWN_PAGE))
        for day, due in ((4, ("p",)), (5, None), (6, None)):
            self.check(server, site_of(PAGE), day, due)

    def test_ends(self):
        pages = site_of(PAGE, put(0, "page", "q", "q"))
        section = site_of(put(0, "section", "s", "p"))
        for site, rules, due in ((pages, [exact("p", "page", "p"), exact("q", "page", "q")], None),
                                 (pages, [exact("p", "page", "q"), exact("q", "page", "p")], ("p",)),
                                 (pages, [exact("p", "page", "p"), exact("q", "gone")], ("q",)),
                                 (pages, [exact("p", "page", "p"), open_("", "section", "q")], ("q",)),
                                 (section, [open_("p", "section", "s")], None), (section, [open_("p", "section", "t")], ("p",)),
                                 (section, [exact("p", "page", "s"), open_("p", "section", "s")], ("p",)),
                                 (section, [open_("", "section", "s")], ("p",)),
                                 (section, [open_("p", "section", "s"), exact("pz", "gone")], ("p", "z")),
                                 (section, [open_("p", "section", "s"), open_("z", *to("p"))], None)):
            self.check(server_of((0, rules)), site, 0, due)

    def test_what_is_gone(self):
        site = site_of(put(0, "section", "s", "p"), take(1, "s"))
        self.assertEqual(heir(site, ("p", "x")), ("gone",))
        for rules, due in (([], None), ([open_("p", "gone")], None), ([exact("p", "gone")], None), ([open_("", "gone")], None),
                           ([open_("p", "section", "s")], ("p",)), ([exact("px", "page", "s")], ("p", "x")),
                           ([open_("p", *to("q"))], None), ([open_("p", *to("q")), exact("q", "page", "t")], ("p",)),
                           ([open_("p", *to("q")), open_("q", "gone"), exact("qz", "page", "t")], ("p", "z"))):
            self.check(server_of((0, rules)), site, 1, due)

    def test_addresses_without_an_heir(self):
        # They may come to any end, but not go on for ever.
        for rules, due in (([open_("", "gone")], None), ([open_("", "section", "t")], None), ([open_("x", *to("p"))], None),
                           ([exact("x", *to("y"))], None), ([exact("x", *to("x"))], ("x",)), ([open_("x", *to("xa"))], ("x",)),
                           ([exact("x", *to("y")), exact("y", *to("x"))], ("x",))):
            self.check(server_of((0, [*rules, exact("p", "page", "p")])), site_of(PAGE), 0, due)

    def test_strange_words(self):
        site = site_of(put(0, "section", "s"), put(0, "page", "p", "b"))
        table = Table([open_("", "section", "s"), exact("b", "page", "p")])
        self.check(server_of((0, table)), site, 0, None)
        for rule, due in ((open_("", "section", "t"), ()), (exact("", "gone"), ()), (exact("c", *to("")), ("c",)),
                          (open_("b", *to("b")), ("b", "a")), (open_("a", "gone"), ("a",)), (exact(("aa", "b"), "gone"), ("aa", "b"))):
            self.check(server_of((0, table.with_rule(rule))), site, 0, due)
        # Whatever has no rule of its own is wrong; the least word that has none is 'aa' here.
        rules = [exact("", "section", "s"), *[open_(word, "section", "s") for word in "ab"]]
        site = site_of(put(0, "section", "s"))
        rules = [exact("", *to(("a", "a", "a"))), open_("a", *to("")), open_("", "section", "s")]
        self.check(server_of((0, rules)), site, 0, (), [(), ("a",) * 3, ("a",) * 2, ("a",), ()], True)
        server = server_of((0, [open_("", "section", "s"), open_("a", *to("", 9))]), (3, [open_("", "section", "s")]))
        self.check(server, site, 5, ("a",), [("a",), ()])
        server = server_of((0, [open_("", *to("b", 9)), open_("a", "gone"), exact("", "gone"), open_("b", "gone")]),
                           (3, [open_("", "section", "s")]))
        self.check(server, site, 5, ("aa",), [("aa",), ("b", "aa")])

    def test_rests_that_are_the_same_by_chance(self):
        # The word 'c' is put in again; for other words the rest is another one.
        site = site_of(put(0, "section", "s", "b"), move(0, "s", "a"))
        table = Table([open_("a", "section", "s"), open_("b", *to("a"))])
        for rule, due in ((open_("bc", *to("ac")), None), (open_("bd", *to("ac")), ("b", "d")), (open_("bc", *to("a")), ("b", "c")),
                          (exact("bc", *to("ac")), None), (exact("bc", *to("acc")), ("b", "c")), (open_("b", *to("ac")), ("b",))):
            self.check(server_of((0, table.with_rule(rule))), site, 0, due)

    def test_more_words_than_any_place_has(self):
        # Each 'a' leads one letter on, and only the last one to what is not gone.
        site = site_of(PAGE, put(0, "section", "s", "a"), take(1, "s"))
        letters = "abcdefghijklmno"
        for many in (2, 3, 6, 14):
            rules = [open_("a", *to("b")), *[open_(one + "a", *to(two)) for one, two in zip(letters[1:many], letters[2:])]]
            table = Table([*rules, *OWN_PAGE])
            self.check(server_of((0, table)), site, 1, None)
            for rule in (open_(letters[many] + "a", *to("p")), exact(letters[many] + "a", *to("p"))):
                way = self.check(server_of((0, table.with_rule(rule))), site, 1, ("a",) * (many + 1))
                self.assertEqual(len(way[2]), many + 2)

    def test_a_strange_word_behind_many_others(self):
        site = site_of(PAGE, put(0, "section", "s", "a"), take(1, "s"))
        rules = [open_("a", *to("b")), open_("ba", *to("c")), open_("ca", *to("d")), open_("da", *to("e")), open_("ea", *to("f")),
                 open_("f", "section", "t"), exact("f", "gone"), open_("fa", "gone"), exact("fb", "gone"), *OWN_PAGE]
        self.check(server_of((0, rules)), site, 1, ("a",) * 5 + ("aa",))

    def test_least(self):
        site = site_of(put(0, "section", "s"))
        own = open_("", "section", "s")
        for rules, due in (([exact("b", "gone"), exact("aa", "gone")], ("b",)), ([exact("ab", "gone"), exact("b", *to("b"))], ("b",)),
                           ([exact("ba", *to("ba")), exact("c", "gone")], ("c",)), ([exact("c", *to("c")), exact("b", "gone")], ("b",)),
                           ([exact("b", *to("b")), exact("c", "gone")], ("b",)), ([exact("", "gone"), exact("", *to(""))][:1], ()),
                           ([open_("abcd", "gone"), open_("abce", "gone")], ("a", "b", "c", "d"))):
            self.check(server_of((0, [own, *rules])), site, 0, due)

    def test_several_old_tables(self):
        site = site_of(put(0, "page", "p", "a"), put(0, "page", "q", "z"))
        own = [exact("a", "page", "p"), exact("z", "page", "q")]
        server = server_of((0, [exact("b", *to("c", 100))]), (5, [exact("c", *to("z", 50))]), (9, [*own, exact("b", *to("a"))]))
        # Neither b nor c has an heir.
        self.check(server, site, 20, None)
        site = site_of(put(0, "page", "p", "b"), put(0, "page", "q", "z"), move(9, "p", "a"))
        self.check(server, site, 20, ("b",), [("b",), ("c",)])
        server.drop_after(5)
        server.set_table(9, Table([*own, exact("b", *to("a")), exact("c", *to("a"))]))
        for day in (9, 58):
            way = self.check(server, site, day, ("b",), [("b",), ("c",), ("z",)])
            self.assertEqual(way[1], [(4, ("b",)), (8, ("c",))])
        # The second redirect is valid for 50 days from the day 8 on.
        self.check(server, site, 59, None)

    def test_several_ends_ahead_of_an_heir(self):
        # By two old tables readers come to two ends from a, which has no heir, and so from ab, which has one.
        site = site_of(put(0, "page", "p", "a", "b"), move(0, "p", "d", "b"))
        table = Table([open_("a", *to("d")), exact("db", "page", "p"), open_("c", "section", "t")])
        old = ([open_("a", *to("c", 9))], [open_("a", *to("e", 9))])
        self.check(server_of((0, old[0]), (1, old[1]), (2, table)), site, 2, ("a", "b"))
        self.check(server_of((0, old[0]), (2, table)), site, 2, ("a", "b"), [("a", "b"), ("c", "b")])
        self.check(server_of((2, table)), site, 2, None)
        # One word more, and a strange one.
        site = site_of(put(0, "section", "s", "a", "b", "c"), move(0, "s", "d", "b"))
        table = Table([open_("abc", *to("db")), open_("db", "section", "s"), open_("c", "section", "t")])
        self.check(server_of((0, old[0]), (1, old[1]), (2, table)), site, 2, ("a", "b", "c"))
        self.check(server_of((2, table)), site, 2, None)

    def test_days(self):
        site = site_of(put(0, "page", "p", "x"), move(3, "p", "y"), move(6, "p", "z"))
        final = [exact("z", "page", "p"), exact("x", *to("z")), exact("y", *to("z"))]
        for days, last in ((1, 6), (2, 7), (10000, 10005)):
            server = server_of((0, [exact("x", "page", "p")]), (3, [exact("x", *to("w", days)), exact("y", "page", "p"),
                                                                    exact("w", *to("y"))]), (6, final))
            self.check(server, site, 3, None)
            self.check(server, site, 6, ("x",), [("x",), ("w",)])
            self.check(server, site, last, ("x",), [("x",), ("w",)])
            self.check(server, site, last + 1, None)
        server = server_of((0, [exact("x", "page", "p")]), (3, [exact("x", *to("w", 0)), exact("y", "page", "p"),
                                                                exact("w", *to("y"))]), (6, final))
        for day in (3, 6, 7):
            self.check(server, site, day, None)

    def test_by_chance(self):
        pick = random.Random(34)
        seen = set()
        for _ in range(250):
            server, site = some_plan(pick, pick.choice(["a", "ab"]), pick.choice([3, 8, 20]), longest=pick.choice([1, 2, 3]),
                                     odd=pick.choice([0, 0.3, 1]))
            days = days_of(server, site)
            for day in [*pick.sample(days, min(2, len(days))), days[-1] + pick.choice([1, 5, 40])]:
                found, due = wrong_address(server, site, day), plain_wrong_address(server, site, day)
                if due is not None or (found is not None and len(found) < 4):
                    self.assertEqual(found, due)
                way = wrong_way(server, site, day)
                if found is None:
                    self.assertIsNone(way)
                else:
                    self.assertEqual(way[0], found)
                    self.assertIs(plain_is_wrong_way(server, site, day, way), True)
                    seen.add((len(found), way[3] is None, len(way[1])))
        self.assertGreater(len(seen), 12)


class Rounds(SafeTest):
    def test_an_address_again(self):
        self.assertEqual(self.check(BACK_AND_FORTH, MOVED, 5, ("x",)), WAY)
        self.assertEqual(self.check(BACK_AND_FORTH, MOVED, 34, ("x",)), WAY)

    def test_more_and_more_words(self):
        way = self.check(server_of((0, [open_("b", *to("ba"))])), Site(), 0, ("b",))
        self.assertEqual(way, (("b",), [], [("b",), ("b", "a")], (0, 1, 1)))

    def test_by_two_old_tables(self):
        own = [exact("a", "page", "p")]
        server = server_of((0, [*own, open_("b", *to("c", 100))]), (5, [*own, open_("c", *to("bd", 50))]), (9, own))
        site = site_of(put(0, "page", "p", "a"))
        for day, due in ((4, None), (5, ("b",)), (9, ("b",)), (58, ("b",)), (59, None), (104, None)):
            way = self.check(server, site, day, due)
            if day >= 9 and due is not None:
                self.assertEqual(way[1:], ([(4, ("b",)), (8, ("c",))], [("b",), ("c",), ("b", "d")], (0, 2, 1)))
        server = server_of((0, [exact("b", *to("c", 100))]), (5, [exact("c", *to("b", 50))]), (9, own))
        self.assertEqual(self.check(server, site, 9, ("b",))[2:], ([("b",), ("c",), ("b",)], (0, 2, 1)))

    def test_behind_other_addresses(self):
        server = server_of((0, [exact("a", *to("bbc")), open_("b", *to("")), open_("c", *to("dd")), open_("d", *to("dd"))]))
        self.check(server, site_of(), 0, ("a",), [("a",), ("b", "b", "c"), ("b", "c"), ("c",), ("d", "d"), ("d", "d", "d")], True)

    def test_the_first_of_a_walk(self):
        # The walk goes on at its first address again, and this is noticed at once.
        server = server_of((0, [open_("h", *to("")), open_("v", *to("hv"))]))
        self.check(server, Site(), 0, ("v",), [("v",), ("h", "v"), ("v",)], True)
        rules = [*counter(8).rules, open_("v", *to("hv"))]
        way = self.check(server_of((0, rules)), Site(), 0, ("v",))
        self.assertEqual((len(way[2]), way[3]), (257, (0, 256, 1)))
        rules = [*counter(8).rules, open_("z", *to("hz"))]
        site = site_of(put(0, "page", "p", "y"))
        rules.append(exact("y", *to("hz")))
        way = self.check(server_of((0, rules)), site, 0, ("y",))
        self.assertEqual((len(way[2]), way[3]), (258, (1, 257, 2)))

    def test_by_chance(self):
        pick = random.Random(35)
        longest, counts = 0, {True: 0, False: 0}
        for _ in range(200):
            server = some_server(pick, pick.choice([1, 2, 3]))
            for day in (0, 2, 50):
                way = wrong_way(server, Site(), day)
                due = plain_wrong_address(server, Site(), day)
                self.assertEqual(way and way[0] if way is None or len(way[0]) < 4 else None, due)
                if way is not None:
                    self.assertIs(plain_is_wrong_way(server, Site(), day, way), True)
                    longest = max(longest, len(way[2]))
                    counts[way[2][-1] in way[2][:-1]] += 1
        self.assertGreater(longest, 5)
        self.assertGreater(min(counts.values()), 20)


class LongWalks(SafeTest):
    def test_up_to_500_addresses(self):
        for many in range(1, 9):
            server = server_of((0, counter(many)))
            site = site_of(put(0, "page", "p", LETTERS[many - 1]))
            # Where another way is shorter, it may be taken.
            self.check(server, site, 0, (LETTERS[many - 1],))
        way = wrong_way(server, site, 0)
        self.assertEqual(len(way[2]), 256)

    def test_a_short_way_beside_long_ones(self):
        # From i a walk has 511 redirects, from h it has 255; with x behind, it goes round.
        site = site_of(put(0, "page", "p", "x"))
        for old, new, many, turn in (("h", "i", 257, None), ("i", "h", 257, None), ("hx", "ix", 257, (0, 256, 1)),
                                     ("ix", "hx", 257, (0, 256, 1)), ("ix", "h", 257, None), ("hx", "i", 257, (0, 256, 1)),
                                     ("h", "ix", 257, None), ("q", "i", 2, None), ("x", "i", 2, (0, 1, 1)), ("hax", "hh", 258, (0, 257, 1)),
                                     ("hha", "hax", 258, (0, 257, 1)), ("hb", "hax", 258, (0, 257, 1)), ("haa", "hax", 258, (0, 257, 1))):
            server = server_of((0, [exact("x", *to(old, 9))]), (1, [*counter(9).rules, exact("x", *to(new))]))
            way = self.check(server, site, 1, ("x",))
            self.assertEqual((len(way[2]), way[3]), (many, turn))

    def test_a_near_end_beside_far_ones(self):
        # Each letter leads to the next one; the ends are at e, s and z, and the heir is none of them.
        site = site_of(put(0, "page", "p", "x", "x"))
        chain = [open_(one, *to(two)) for one, two in zip(LETTERS, LETTERS[1:]) if one not in "es"]
        chain += [open_("e", "section", "e"), open_("s", "gone"), open_("z", "section", "z")]
        for targets, many in (("af", 6), ("fa", 6), ("fc", 4), ("atf", 6), ("tu", 7), ("tfa", 6), ("fta", 6), ("fga", 6), ("gfd", 3), ("e", 2),
                              ("ahe", 2), ("hs", 2), ("zh", 2)):
            rows = [(day, [*chain, exact("xx", *to(target, 9))]) for day, target in enumerate(targets)]
            way = self.check(server_of(*rows), site, len(targets) - 1, ("x", "x"))
            self.assertEqual(len(way[2]), many, targets)

    def test_short_steps_beside_long_ones(self):
        # By the old table, each letter leads to the one ahead of it alone; the table in force takes it twice.
        site = site_of(put(0, "page", "p", "x"))
        old = [open_(two, *to(one, 9)) for one, two in zip(LETTERS, LETTERS[1:12])]
        for target, many, turn in (("l", 14, None), ("ll", 26, None), ("lll", 38, None), ("lx", 14, (0, 13, 1)), ("llx", 26, (0, 25, 1)),
                                   ("cl", 17, None), ("alx", 15, (0, 14, 1))):
            server = server_of((0, old), (1, [*counter(12).rules, exact("x", *to(target))]))
            way = self.check(server, site, 1, ("x",))
            self.assertEqual((len(way[2]), way[3]), (many, turn))

    def test_as_short_as_can_be(self):
        pick = random.Random(39)
        seen = set()
        for _ in range(150):
            server, site = pick.choice([lambda: some_plan(pick, odd=0.6), lambda: (some_server(pick), Site())])()
            day = pick.choice([*days_of(server, site), 60])
            way = wrong_way(server, site, day)
            if way is not None and len(way[2]) > 1:
                table, tables = claims_table(site.at(day)), [told for told, _ in server.sources(day)]
                level = [[way[0]]]
                for _ in range(len(way[2]) - 1):
                    # No shorter walk ends wrong, or has a round.
                    for walk in level:
                        end, due = server.answer(walk[-1], day), plain_heir(table, walk[0])
                        self.assertTrue(end[0] == "to" or due is None or plain_fits(end, due))
                        self.assertFalse(has_round(walk, plain_joints(tables)))
                    level = [[*walk, after] for walk in level for after in plain_allowed(server, walk[-1], day)]
                seen.add(len(way[2]))
        self.assertGreater(len(seen), 3)

    def test_more_than_500_addresses(self):
        for many in (9, 10, 26):
            site = site_of(put(0, "page", "p", LETTERS[many - 1]))
            self.assertEqual(wrong_address(server_of((0, counter(many))), site, 0), (LETTERS[many - 1],))

    def test_more_than_2_to_the_36(self):
        # From z, all words but those behind it are taken away, one after the other.
        rules = [open_("a", *to("")), *[open_(two, *to((one,) * 4)) for one, two in zip(LETTERS, LETTERS[1:])]]
        site = site_of((0, "put", "page", "p", ("z", "home")), (1, "move", "page", "p", ("home",)))
        own = ("exact", ("home",), ("page", "p"))
        gone = ("exact", ("home",), ("gone",))
        guard = ("exact", ("z", "home"), ("gone",))
        turn = ("exact", ("end",), ("to", ("z", "end"), 0))
        for more, due in (([own], None), ([], ("home",)), ([gone], ("home",)), ([own, guard], ("z", "home")), ([own, turn], ("end",))):
            self.assertEqual(wrong_address(server_of((0, [*rules, *more])), site, 1), due)
        # What is right today was right for years, and may still be remembered.
        lasting = [("open", place, ("to", answer[1], 10000)) for _, place, answer in rules]
        last = [*rules, own, ("exact", ("z", "home"), ("to", ("home",), 0))]
        for old, due in ((lasting, None), ([*lasting, ("exact", ("c", "home"), ("to", (), 10000))], ("z", "home"))):
            self.assertEqual(wrong_address(server_of((0, old), (5, last)), site, 5), due)

    def test_many_words_put_in(self):
        # The end has more and more words, by two tables that say so in their own ways.
        rules = [open_(two, *to((one, one))) for one, two in zip(LETTERS, LETTERS[1:20])]
        site = site_of(put(0, "section", "s"))
        own = open_("", "section", "s")
        server = server_of((0, [own, *rules]), (1, [own]))
        self.check(server, site, 1, None)
        lasting = [("open", place, ("to", answer[1], 9)) for _, place, answer in rules]
        self.check(server_of((0, [own, *lasting]), (1, [own])), site, 1, ("b",), [("b",), ("a", "a")])


class IsWrongWay(SafeTest):
    def wrong(self, value, server=BACK_AND_FORTH, site=MOVED, day=5):
        self.assertIs(is_wrong_way(server, site, day, value), False, value)

    def test_any_values(self):
        for value in (*ANY_VALUES, (), WAY[:3], (*WAY, None), list(WAY), (WAY,), [WAY], {WAY[0]: WAY[1]}):
            self.wrong(value)
            for at in range(4):
                parts = list(WAY)
                parts[at] = value
                if tuple(parts) != WAY:
                    self.wrong(tuple(parts))
            self.wrong((WAY[0], [value], *WAY[2:]))
            self.wrong((WAY[0], [(value, ("x",))], *WAY[2:]))
            self.wrong((WAY[0], [(4, value)], *WAY[2:]))
            self.wrong((*WAY[:2], [value], WAY[3]))
            self.wrong((*WAY[:2], [("x",), value, ("x",)], WAY[3]))
            for at in range(3):
                parts = list(WAY[3])
                parts[at] = value
                if value != WAY[3][at] or isinstance(value, bool):
                    self.wrong((*WAY[:3], tuple(parts)))

    def test_lists_and_tuples(self):
        address, visits, walk, turn = WAY
        for value in ((list(address), visits, walk, turn), (address, tuple(visits), walk, turn), (address, visits, tuple(walk), turn),
                      (address, visits, walk, list(turn)), (address, [list(visits[0])], walk, turn),
                      (address, [(4, ["x"])], walk, turn), (address, visits, [list(each) for each in walk], turn)):
            self.wrong(value)

    def test_right_and_wrong_ways(self):
        address, visits, walk, turn = WAY
        for value, due in ((WAY, True), ((address, visits, walk, None), False), ((address, [], walk, turn), False),
                           ((address, [(3, ("x",))], walk, turn), True), ((address, [(2, ("x",))], walk, turn), True),
                           ((address, [(1, ("x",))], walk, turn), False), ((address, [(5, ("x",))], walk, turn), False),
                           ((address, [(6, ("x",))], walk, turn), False), ((("y",), visits, walk, turn), False),
                           ((address, visits, walk[:2], turn), False), ((address, visits, walk[:2], None), False),
                           ((address, visits, walk[:1], None), False), ((address, [], walk[:1], None), False),
                           ((address, visits, [*walk, ("y",)], (1, 3, 1)), False), ((address, visits, walk, (0, 2, 0)), False),
                           ((("y",), visits, [("y",), ("x",), ("y",)], turn), True), ((("y",), [], [("y",), ("x",)], (0, 1, 1)), False)):
            self.assertIs(is_wrong_way(BACK_AND_FORTH, MOVED, 5, value), due, value)
            self.assertIs(plain_is_wrong_way(BACK_AND_FORTH, MOVED, 5, value), due, value)

    def test_visits_that_are_not_needed(self):
        for visits, due in (([(4, ("x",)), (4, ("z", "z"))], True), ([(4, ("z", "z")), (4, ("x",))], False),
                            ([(4, ("x",)), (4, ("x",))], False), ([(3, ("x",)), (4, ("x",))], False),
                            ([(0, ("z",)), (4, ("x",)), (5, ("q",) * 9)], True), ([(4, ("x",)), (0, ("z",))], False),
                            ([(4, ("x",)), (5, ("y",))], True), ([(4, ("x",)), (4, ("y",))], True),
                            ([(4, ("z",)), (4, ("x",))], False), ([(4, ("x",)), (4, ("z",))], True)):
            value = (WAY[0], visits, *WAY[2:])
            self.assertIs(is_wrong_way(BACK_AND_FORTH, MOVED, 5, value), due, value)
            self.assertIs(plain_is_wrong_way(BACK_AND_FORTH, MOVED, 5, value), due, value)

    def test_any_wrong_address(self):
        server = server_of((0, [exact("a", "gone"), exact("c", *to("a"))]))
        site = site_of(put(0, "page", "p", "a"), put(0, "page", "q", "b"), put(0, "page", "r", "c"))
        self.check(server, site, 0, ("a",))
        for address, walk in ((("a",), [("a",)]), (("b",), [("b",)]), (("c",), [("c",), ("a",)])):
            self.assertIs(is_wrong_way(server, site, 0, (address, [], walk, None)), True)
            self.assertIs(is_wrong_way(server, site_of(), 0, (address, [], walk, None)), False)
        self.assertIs(is_wrong_way(server, site, 0, (("d",), [], [("d",)], None)), False)

    def test_an_end_that_fits(self):
        server = server_of((0, [exact("a", *to("b")), exact("b", "page", "p")]))
        for site, due in ((site_of(put(0, "page", "p", "a"), move(0, "p", "b")), False), (site_of(put(0, "page", "q", "a")), True),
                          (site_of(put(0, "page", "p", "a"), take(0, "p")), True), (site_of(), False)):
            self.assertIs(is_wrong_way(server, site, 0, (("a",), [], [("a",), ("b",)], None)), due)
        gone = site_of(put(0, "page", "p", "z"), take(0, "p"))
        self.assertIs(is_wrong_way(server, gone, 0, (("z",), [], [("z",)], None)), False)

    def test_changed_ways(self):
        pick = random.Random(36)
        counts = {True: 0, False: 0}
        for _ in range(220):
            server, site = pick.choice([lambda: some_plan(pick, odd=0.6), lambda: (some_server(pick), Site())])()
            day = pick.choice([*days_of(server, site), 60])
            way = wrong_way(server, site, day)
            if way is not None:
                for value in changed_ways(pick, server, day, way, 25):
                    due = plain_is_wrong_way(server, site, day, value)
                    self.assertIs(is_wrong_way(server, site, day, value), due, value)
                    counts[due] += 1
        self.assertGreater(min(counts.values()), 200)


def changed_ways(pick, server, day, way, many):
    """Ways with one part changed."""
    for _ in range(many):
        address, visits, walk, turn = copy.deepcopy(way)
        what = pick.randrange(10)
        if what == 0:
            address = pick.choice([("a",), (), address + ("a",), address[:-1], list(address)])
        elif what == 1 and visits:
            visits.pop(pick.randrange(len(visits)))
        elif what == 2:
            visits.append((pick.choice([0, day, day + 1, -1, True]), pick.choice([("a",), ("b",), ("zz",), walk[-1]])))
        elif what == 3 and visits:
            at = pick.randrange(len(visits))
            visits[at] = (visits[at][0] + pick.choice([-1, 1]), visits[at][1])
        elif what == 4:
            visits = pick.choice([visits[::-1], visits * 2, tuple(visits)])
        elif what == 5:
            walk = pick.choice([walk[:-1], walk[1:], walk[::-1], walk * 2, tuple(walk)])
        elif what == 6:
            walk.append(pick.choice([*sorted(plain_allowed(server, walk[-1], day)), walk[0], walk[-1], ("a",)]))
        elif what == 7:
            walk[pick.randrange(len(walk))] = pick.choice([("a",), (), walk[-1] + ("a",), walk[0][:-1]])
        elif what == 8:
            turn = None if turn else pick.choice([(0, 1, 0), (0, len(walk) - 1, len(address)), ()])
        elif turn:
            parts = list(turn)
            parts[pick.randrange(3)] += pick.choice([-1, 1, 2])
            turn = pick.choice([tuple(parts), parts, turn + (0,), turn[::-1]])
        yield (address, visits, walk, turn)


class Passed(SafeTest):
    def test_the_server_and_the_site_may_be_changed_behind(self):
        server, site = BACK_AND_FORTH.copied(), MOVED.copied()
        way = wrong_way(server, site, 9)
        server.drop_after(4)
        self.assertIsNone(wrong_address(server, site, 9))
        self.assertIs(is_wrong_way(server, site, 9, way), False)
        site.take(10, "p")
        self.assertEqual(wrong_address(server, site, 10), ("x",))
        self.assertIsNone(wrong_address(server, site, 9))

    def test_what_is_returned_is_the_callers(self):
        way = wrong_way(BACK_AND_FORTH, MOVED, 5)
        self.assertIsInstance(way, tuple)
        way[1].clear()
        way[2].append("x")
        self.assertEqual(wrong_way(BACK_AND_FORTH, MOVED, 5), WAY)

    def test_what_is_judged_stays(self):
        value = copy.deepcopy(WAY)
        is_wrong_way(BACK_AND_FORTH, MOVED, 5, value)
        self.assertEqual(value, WAY)

    def test_a_reader_takes_the_way(self):
        address, visits, walk, _ = wrong_way(BACK_AND_FORTH, MOVED, 20)
        reader = Reader(BACK_AND_FORTH)
        for day, each in visits:
            reader.ask(each, day)
        self.assertEqual(reader.follow(address, 20, steps=2), (walk, None))


if __name__ == "__main__":
    unittest.main()
