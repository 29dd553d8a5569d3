"""Points 22 and 23: texts, and what has a text."""

import random
import unittest

from leadsever.errors import BadText
from leadsever.servers import Server
from leadsever.sites import Site
from leadsever.tables import Table
from leadsever.texts import (address_text, read_address, read_rule, read_server, read_site, read_table, rule_text, server_text,
                             site_text, table_text)
from happened import some_site
from served import BACK_AND_FORTH, FIRST, MOVED, exact, move, open_, put, server_of, site_of, some_plan, some_server, take, to
from test_rules import ANY_VALUES

LATE = 1000000
NO_TEXTS = [value for value in ANY_VALUES if not isinstance(value, str)]
ADDRESSES = [("/", ()), ("/a", ("a",)), ("/a/b", ("a", "b")), ("/docs/faq/x", ("docs", "faq", "x")), ("/" + "z" * 12, ("z" * 12,)),
             ("/a" * 5000, ("a",) * 5000), ("/gone/to/for/page", ("gone", "to", "for", "page"))]
RULES = [("/ gone", exact("", "gone")), ("/* gone", open_("", "gone")), ("/a page faq", exact("a", "page", "faq")),
         ("/a/* section docs", open_("a", "section", "docs")), ("/a/b gone", exact("ab", "gone")), ("/a/b/* gone", open_("ab", "gone")),
         ("/a to /b", exact("a", *to("b"))), ("/a to /", exact("a", *to(""))), ("/a/* to /b for 1", open_("a", *to("b", 1))),
         ("/a/* to / for 10000", open_("a", *to("", 10000))), ("/ to /", exact("", *to(""))),
         ("/a/b/c/d to /a/b/c/e for 30", exact("abcd", *to("abce", 30))), ("/to to /for for 7", ("exact", ("to",), ("to", ("for",), 7))),
         ("/a page gone", exact("a", "page", "gone")), ("/a/* section to", open_("a", "section", "to"))]


class TextTest(unittest.TestCase):
    def refused(self, read, value):
        with self.assertRaises(BadText) as caught:
            read(value)
        self.assertIs(type(caught.exception), BadText)
        self.assertIs(caught.exception.value, value)

    def all_refused(self, read, values):
        for value in [*NO_TEXTS, *values]:
            self.refused(read, value)


class Addresses(TextTest):
    def test_both_ways(self):
        for text, address in ADDRESSES:
            self.assertEqual(address_text(address), text)
            self.assertEqual(address_text(address=list(address)), text)
            self.assertEqual(read_address(text), address)
            self.assertEqual(read_address(text=text), address)
            self.assertIsInstance(read_address(text), tuple)

    def test_what_is_no_text(self):
        self.all_refused(read_address, ["", "a", "//", "/a/", "//a", "/a//b", "a/b", "/A", "/a b", " /a", "/a ", "/a\n", "\n", "/*", "/a/*",
                                        "/" + "a" * 13, "/a1", "/\u00e9", "/\u0430", "/a/\u00df", "/a\t", "\\a", "/a-b", "/a.b", "exact"])


class Rules(TextTest):
    def test_both_ways(self):
        for text, rule in RULES:
            self.assertEqual(rule_text(rule), text)
            self.assertEqual(rule_text(rule=rule), text)
            self.assertEqual(read_rule(text), rule)
            self.assertEqual(read_rule(text=text), rule)

    def test_examples(self):
        self.assertEqual([rule_text((sort, place, ("gone",))) for place in ((), ("a", "b")) for sort in ("exact", "open")],
                         ["/ gone", "/* gone", "/a/b gone", "/a/b/* gone"])

    def test_what_is_no_text(self):
        self.all_refused(read_rule, [
            "", " ", "/a", "/a ", "gone", " gone", "/a  gone", "/a gone ", " /a gone", "/a gone\n", "/a gone gone", "/a Gone", "/a go",
            "/a nothing", "/a page", "/a page ", "/a page faq faq", "/a page Faq", "/a page a1", "/a page /faq", "/a section s",
            "/a/* page p", "/a/* section", "/a/* section s /", "/a/* section " + "s" * 13, "/a to", "/a to ", "/a to b", "/a to /b/",
            "/a to /b for", "/a to /b for ", "/a to /b for 0", "/a to /b for 00", "/a to /b for 01", "/a to /b for 007", "/a to /b for +7",
            "/a to /b for -7", "/a to /b for 7 ", "/a to /b for 7 7", "/a to /b for  7", "/a to /b for 7\n", "/a to /b for 10001",
            "/a to /b for 1000000", "/a to /b for " + "9" * 60, "/a to /b for " + "1" * 5000, "/a to /b for 1_0", "/a to /b for 7.0",
            "/a to /b for \u0667", "/a to /b for \u00b2", "/a to /b for seven", "/a to /b For 7", "/a to /* for 1", "/a to /b/*",
            "a gone", "a/* gone", "//* gone", "* gone", "/** gone", "/a* gone", "/a/** gone", "/a/*/b gone", "/*/a gone", "/a//* gone",
            "/a/b/c/d/e gone", "/a/b/c/d/e/* gone", "/a to /a/b/c/d/e", "/\u00e9 gone", "/a page \u00e9", "/a\tgone", "/a\ngone",
            "/A gone", "/a to /B", "/ to", "/ gone ; /a gone", "day 3", "/a gone /b gone"])


class Tables(TextTest):
    def test_example(self):
        self.assertEqual(table_text(Table([("open", (), ("to", ("new",), 9)), ("exact", ("faq",), ("page", "faq"))])),
                         "/* to /new for 9\n/faq page faq")

    def test_both_ways(self):
        for table, text in ((Table(), ""), (FIRST, "/x to /y for 30\n/y page p"), (Table([exact("a", "gone")]), "/a gone"),
                            (Table([open_("", "gone"), exact("", "gone"), open_("a", "gone"), exact("a", "gone"), exact("b", "gone"),
                                    exact("aa", "gone")]), "/ gone\n/* gone\n/a gone\n/a/* gone\n/b gone\n/a/a gone")):
            self.assertEqual(table_text(table), text)
            self.assertEqual(table_text(table=table), text)
            self.assertEqual(read_table(text), table)
            self.assertEqual(read_table(text=text), table)
            self.assertIsInstance(read_table(text), Table)

    def test_40_rules(self):
        words = [one + two for one in "abcdefg" for two in "abcdef"]
        lines = [f"/{word} gone" for word in words]
        self.assertEqual(len(read_table("\n".join(lines[:40]))), 40)
        self.refused(read_table, "\n".join(lines[:41]))

    def test_what_is_no_text(self):
        self.all_refused(read_table, [
            "\n", " ", "gone", "/a gone\n", "\n/a gone", "/a gone\n\n/b gone", "/a gone /b gone", "/b gone\n/a gone", "/a/* gone\n/a gone",
            "/a/b gone\n/c gone", "/a gone\n/a gone", "/a gone\n/a page p", "/a gone\r\n/b gone", "/a gone\n /b gone", "/a gone\n/b gone ",
            "/a gone // /b gone", "/a gone ; /b gone", "day 3", "day 3\n/a gone", "/a", "/a gone\n/b", "/a to /b for 0", "/a gone\x0b/b gone",
            "/a gone\u2028/b gone"])


class Servers(TextTest):
    TEXT = "day 2\n/x to /y for 30\n/y page p\nday 5\n/x page p\n/y to /x"

    def test_both_ways(self):
        for server, text in ((Server(), ""), (BACK_AND_FORTH, self.TEXT), (server_of((0, [])), "day 0"),
                             (server_of((0, []), (7, [open_("", "gone")]), (LATE, [])), "day 0\nday 7\n/* gone\nday 1000000"),
                             (server_of((3, [exact(["day"], "gone")])), "day 3\n/day gone")):
            before = server.copied()
            self.assertEqual(server_text(server), text)
            self.assertEqual(server_text(server=server), text)
            self.assertEqual(server, before)
            self.assertEqual(read_server(text), server)
            self.assertEqual(read_server(text=text), server)
            self.assertIsInstance(read_server(text), Server)

    def test_it_goes_on_alike(self):
        server = read_server(self.TEXT)
        server.set_table(9, FIRST)
        self.assertEqual(server.days, [2, 5, 9])
        self.assertEqual(read_server(self.TEXT), BACK_AND_FORTH)
        self.assertEqual(server.kept(("x",), 34), BACK_AND_FORTH.kept(("x",), 34))
        with self.assertRaises(ValueError):
            server.set_table(9, FIRST)

    def test_what_is_no_text(self):
        self.all_refused(read_server, [
            "\n", "day", "day ", "day 2 ", " day 2", "day  2", "day 02", "day +2", "day -2", "day 2.0", "day two", "day \u0662", "day 2\n",
            "\nday 2", "day 2\n\nday 3", "day 1000001", "day 10000000", "day " + "9" * 5000, "Day 2", "days 2", "day 2 3", "day 2\nday 2",
            "day 3\nday 2", "/a gone", "/a gone\nday 2", "day 2\n/a", "day 2\n/b gone\n/a gone", "day 2\n/a gone\n/a gone", "day 2 // /a gone",
            "day 2\n/a gone\n\nday 3", "day 2\n/a to /b for 0", "day 2 /a gone", "day\n2", "day 2\r\nday 3", "2"])


class Sites(TextTest):
    def test_both_ways(self):
        site = site_of(put(0, "page", "p"), put(0, "section", "s", "a", "b"), move(3, "p", "c"), put(3, "page", "q", "d"),
                       (4, "merge", None, "p", "q"), take(4, "s"), (LATE, "bring", None, "s", ()), (LATE, "bring", None, "p", ("x",)))
        text = ("0 put page p at /\n0 put section s at /a/b\n3 move page p to /c\n3 put page q at /d\n4 merge page p into q\n"
                "4 take section s\n1000000 bring section s at /\n1000000 bring page p at /x")
        odd = site_of(put(1, "page", "to", "at"), put(1, "section", "page", "into"), put(1, "section", "put", "take"), move(2, "to", "to"),
                      (2, "merge", None, "page", "put"), take(2, "to"))
        odd_text = ("1 put page to at /at\n1 put section page at /into\n1 put section put at /take\n2 move page to to /to\n"
                    "2 merge section page into put\n2 take page to")
        for each, due in ((Site(), ""), (site, text), (odd, odd_text),
                          (MOVED, "1 put page p at /x\n2 move page p to /y\n5 move page p to /x")):
            before = each.copied()
            self.assertEqual(site_text(each), due)
            self.assertEqual(site_text(site=each), due)
            self.assertEqual(each, before)
            self.assertEqual(read_site(due), each)
            self.assertEqual(read_site(text=due), each)
            self.assertIsInstance(read_site(due), Site)

    def test_it_goes_on_alike(self):
        site = read_site("1 put page p at /x\n2 take page p")
        self.assertEqual((site.names, site.last, site.place_of("p")), (["p"], 2, None))
        with self.assertRaises(ValueError):
            site.bring(1, "p", ("x",))
        site.bring(2, "p", ("y",))
        self.assertEqual(site.claims(), [("page", ("x",), "p", 1, 2), ("page", ("y",), "p", 3, None)])
        self.assertEqual(site_text(site), "1 put page p at /x\n2 take page p\n2 bring page p at /y")

    def test_what_is_no_line(self):
        ahead = "1 put page p at /x\n1 put section s at /x\n1 put page q at /y\n1 put page r at /z\n2 take page r\n"
        good = ["2 move page p to /a", "2 merge page p into q", "2 take page p", "2 bring page r at /z", "2 put page t at /z"]
        for line in good:
            self.assertEqual(site_text(read_site(ahead + line)), ahead + line)
        bad = ["", " ", "2", "move page p to /a", "2 move page p at /a", "2 move page p into /a", "2 move page p /a", "2 move page p to a",
               "2 move page p to /a ", " 2 move page p to /a", "2  move page p to /a", "02 move page p to /a", "+2 move page p to /a",
               "\u0662 move page p to /a", "2 Move page p to /a", "2 move p to /a", "2 move section p to /a", "2 move Page p to /a",
               "2 move page P to /a", "2 move page p to /a/b/c/d/e", "2 move page p to /y", "2 move page p to /x", "2 move page r to /a",
               "2 move page u to /a", "1 move page p to /a", "1000001 move page p to /a", "2 move page p to /a\n", "2 move page p to /a for 3",
               "2 merge page p into p", "2 merge page p into s", "2 merge page p into r", "2 merge page p into u", "2 merge page p to q",
               "2 merge page p into /q", "2 merge page p into Q", "2 merge section p into q", "2 merge page p q", "2 merge page r into p",
               "2 merge page p into page q", "2 take page r", "2 take page u", "2 take section p", "2 take page p at /x", "2 take p",
               "2 take page", "2 take page p ", "2 bring page p at /a", "2 bring page r at /x", "2 bring page r to /a", "2 bring section r at /a",
               "2 bring page u at /a", "2 bring page r", "2 put page p at /a", "2 put page r at /a", "2 put page t at /x", "2 put section t at /x",
               "2 put page t to /a", "2 put page t at /a/b/c/d/e", "2 put page t", "2 put t at /a", "2 put page T at /a", "2 put page t\u00e9 at /a",
               "2 put thing t at /a", "2 drop page p", "2 put page " + "t" * 13 + " at /a", "-1 put page t at /a", "day 2", "/a gone"]
        self.all_refused(read_site, [ahead + line for line in bad])
        self.all_refused(read_site, [ahead, "\n", "\n" + ahead + good[0], ahead + "\n" + good[0], (ahead + good[0]).replace("\n", "\r\n"),
                                     (ahead + good[0]).replace("\n", " // "), ahead[1:] + good[0]])


class ByChance(TextTest):
    def test_reading_and_writing(self):
        pick = random.Random(58)
        for _ in range(60):
            site = some_site(pick, "ab", pick.choice([0, 5, 30]))
            self.assertEqual(read_site(site_text(site)), site)
            server = pick.choice([some_server(pick), some_plan(pick)[0]])
            self.assertEqual(read_server(server_text(server)), server)
            for day in server.days:
                table = server.table(day)
                self.assertEqual(read_table(table_text(table)), table)
                for rule in table.rules:
                    self.assertEqual(read_rule(rule_text(rule)), rule)

    def test_changed_texts(self):
        # Whatever is read, it is written in the same way again.
        pick = random.Random(59)
        counts = {True: 0, False: 0}
        for _ in range(150):
            server, site = some_plan(pick)
            for text, read, write in ((server_text(server), read_server, server_text), (site_text(site), read_site, site_text),
                                      (table_text(server.table(9)), read_table, table_text)):
                for _ in range(6):
                    changed = self.changed(pick, text)
                    try:
                        found = read(changed)
                    except BadText as error:
                        self.assertIs(error.value, changed)
                        counts[False] += 1
                    else:
                        self.assertEqual(write(found), changed)
                        counts[True] += 1
        self.assertGreater(min(counts.values()), 100)

    def changed(self, pick, text):
        at = pick.randrange(len(text) + 1)
        what = pick.randrange(4)
        if what == 0:
            return text[:at] + text[at + 1:]
        if what == 1:
            return text[:at] + pick.choice("ab/ 019\n*\u0661") + text[at:]
        lines = text.split("\n")
        line = pick.randrange(len(lines))
        if what == 2:
            return "\n".join(lines[:line] + lines[line + 1:])
        return "\n".join(lines[:line] + [pick.choice(lines)] + lines[line:])


if __name__ == "__main__":
    unittest.main()
