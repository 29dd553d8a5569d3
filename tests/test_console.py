"""Point 28: consoles."""

import random
import unittest

from leadsever.console import Console
from leadsever.errors import (BadCommand, BadDay, BadName, BadPlace, BadTable, NotStanding, Standing, TakenName, TakenPlace,
                              UnknownName)
from leadsever.fewest import fewest_table
from leadsever.heirs import heir
from leadsever.plans import free_from
from leadsever.safe import wrong_address
from leadsever.texts import rule_text, server_text, site_text
from served import exact, some_plan, to
from test_rules import ANY_VALUES


def console_of(*commands):
    console = Console()
    for command in commands:
        console(command)
    return console


BACK_AND_FORTH = ("day 2 /x to /y for 30 ; /y page p", "day 5 /x page p ; /y to /x", "on 1 put page p at /x", "on 2 move page p to /y",
                  "on 5 move page p to /x")
THINGS = ("on 1 put page p at /x", "on 1 put section s at /x", "on 1 put page q at /y", "on 1 put page r at /z", "on 2 take page r",
          "on 2 put section t at /t")


class ConsoleTest(unittest.TestCase):
    def check(self, console, *rows):
        for command, due in rows:
            before = (console("server"), console("site"))
            self.assertEqual(console(command), due, command)
            self.assertEqual(console(command=command), due)
            self.assertEqual((console("server"), console("site")), before)

    def refused(self, console, command, error, **kept):
        before = (console("server"), console("site"))
        with self.assertRaises(error) as caught:
            console(command)
        self.assertIs(type(caught.exception), error, command)
        for name, value in kept.items():
            self.assertEqual(getattr(caught.exception, name), value)
        if error is BadCommand:
            self.assertIs(caught.exception.command, command)
        self.assertEqual((console("server"), console("site")), before)


class Commands(ConsoleTest):
    def test_example(self):
        console = Console()
        self.assertEqual(console("day 2 /x to /y for 30 ; /y page p"), "ok")
        self.assertEqual(console("on 2 put page p at /y"), "ok")
        self.assertEqual([console("ask 2 /x"), console("kept 9 /x"), console("safe 2")], ["to /y for 30", "/y", "safe"])

    def test_without_anything(self):
        self.check(Console(), ("ask 0 /", "nothing"), ("kept 1000000 /a", "none"), ("heir /", "none"), ("safe 7", "safe"), ("free 7 /a", "7"),
                   ("few", "0"), ("table 3", ""), ("server", ""), ("site", ""))

    def test_day(self):
        console = Console()
        for command in ("day 0", "day 2 /b gone ; /a gone", "day 3 /* section s", "day 1000000 / to / for 10000"):
            self.assertEqual(console(command), "ok")
        self.check(console, ("server", "day 0 // day 2 // /a gone // /b gone // day 3 // /* section s // day 1000000 // / to / for 10000"),
                   ("table 0", ""), ("table 1", ""), ("table 2", "/a gone // /b gone"), ("table 999999", "/* section s"))

    def test_on(self):
        console = Console()
        for command in ("on 0 put page p at /", "on 0 put section s at /a/b", "on 0 move page p to /c", "on 3 put page q at /d",
                        "on 3 merge page p into q", "on 3 take section s", "on 9 bring section s at /", "on 1000000 bring page p at /x"):
            self.assertEqual(console(command), "ok")
        self.check(console, ("site", "0 put page p at / // 0 put section s at /a/b // 0 move page p to /c // 3 put page q at /d // "
                                     "3 merge page p into q // 3 take section s // 9 bring section s at / // 1000000 bring page p at /x"))

    def test_ask(self):
        console = console_of("day 2 /a page p ; /b/* section s ; /c/* gone ; /d/* to /e ; /f to / for 9")
        self.check(console, ("ask 2 /a", "page p"), ("ask 2 /b", "section s /"), ("ask 9 /b/x/y", "section s /x/y"), ("ask 2 /c/x", "gone"),
                   ("ask 2 /d/x", "to /e/x"), ("ask 2 /f", "to / for 9"), ("ask 2 /f/x", "nothing"), ("ask 1 /a", "nothing"),
                   ("ask 2 /" + "/".join(["b"] * 3000), "section s /" + "/".join(["b"] * 2999)))

    def test_kept(self):
        console = console_of("day 0 /a/* to /c for 9", "day 3 /a/* to /b/b for 9", "day 5 /a/* to / for 9", "day 7")
        self.check(console, ("kept 0 /a", "/c"), ("kept 2 /a/x", "/c/x"), ("kept 4 /a", "/c /b/b"), ("kept 8 /a", "/ /c /b/b"),
                   ("kept 8 /a/x", "/x /c/x /b/b/x"), ("kept 13 /a", "/ /b/b"), ("kept 16 /a", "none"), ("kept 0 /b", "none"))

    def test_heir(self):
        console = console_of("on 0 put section docs at /docs", "on 3 move section docs to /manual", "on 4 put page faq at /manual/faq",
                             "on 5 put page old at /old", "on 5 take page old")
        self.check(console, ("heir /docs/x", "section docs /x"), ("heir /docs", "section docs /"), ("heir /docs/faq", "page faq"),
                   ("heir /x", "none"), ("heir /", "none"), ("heir /old", "gone"), ("few", "3"))

    def test_safe(self):
        console = console_of(*BACK_AND_FORTH)
        self.check(console, ("safe 0", "safe"), ("safe 1", "wrong /x"), ("safe 4", "safe"), ("safe 5", "wrong /x > /y > /x round"),
                   ("safe 34", "wrong /x > /y > /x round"), ("safe 35", "safe"))
        console = console_of("day 0 /a/* to /a/b", "on 0 put page p at /c")
        self.check(console, ("safe 0", "wrong /a > /a/b round"))
        console = console_of("day 0 /a to /b ; /b gone", "on 0 put page p at /a")
        self.check(console, ("safe 0", "wrong /a > /b"))
        console = console_of("day 0 /* gone", "on 0 put section s at /")
        self.check(console, ("safe 0", "wrong /"))

    def test_free(self):
        self.check(console_of(*BACK_AND_FORTH), ("free 0 /x", "35"), ("free 40 /x", "40"), ("free 40 /y", "40"))
        self.check(console_of(BACK_AND_FORTH[0]), ("free 0 /x", "never"), ("free 0 /y", "0"))
        self.check(console_of("day 0 /x to /y for 10000", "day 1000000"), ("free 0 /x", "1010000"))

    def test_few(self):
        self.check(console_of(*THINGS), ("few", "4"))
        self.check(console_of("on 0 put section s at /a/b", "on 0 move section s to /a"), ("few", "none"))
        # Without inside: what has no heir may go anywhere.
        self.check(console_of("on 0 put page p at /a/x", "on 0 put page q at /a/y", "on 1 move page p to /b/x", "on 1 move page q to /b/y"),
                   ("few", "3"))

    def test_two_consoles_share_nothing(self):
        one, two = Console(), console_of(*BACK_AND_FORTH)
        self.check(one, ("server", ""), ("site", ""), ("ask 9 /x", "nothing"))
        one("day 9 /x gone")
        one("on 9 put section p at /")
        self.check(two, ("ask 9 /x", "page p"), ("heir /x", "page p"))

    def test_as_the_functions_say(self):
        pick = random.Random(61)
        for _ in range(40):
            server, site = some_plan(pick)
            console = Console()
            for day in server.days:
                rules = [rule_text(rule) for rule in server.table(day).rules]
                console(f"day {day} " + " ; ".join(rules[::-1]) if rules else f"day {day}")
            for line in site_text(site).split("\n") if site.last is not None else []:
                console("on " + line)
            self.assertEqual(console("server"), server_text(server).replace("\n", " // "))
            self.assertEqual(console("site"), site_text(site).replace("\n", " // "))
            few = fewest_table(site)
            self.assertEqual(console("few"), "none" if few is None else str(len(few)))
            for address, text in (((), "/"), (("a",), "/a"), (("a", "b"), "/a/b")):
                day = pick.choice([0, 1, 5, 60])
                free, due = free_from(server, address, day), heir(site, address)
                self.assertEqual(console(f"free {day} {text}"), "never" if free is None else str(free))
                self.assertEqual(console(f"heir {text}").split(" ")[0], "none" if due is None else due[0])
                self.assertEqual(console(f"ask {day} {text}").split(" ")[0], server.answer(address, day)[0])
                wrong = wrong_address(server, site, day)
                told = console(f"safe {day}").split(" ")
                self.assertEqual(told[:2], ["safe"] if wrong is None else ["wrong", "/" + "/".join(wrong)])


class Refused(ConsoleTest):
    def test_what_is_no_command(self):
        console = console_of(*THINGS, "day 3 /a gone")
        for command in [value for value in ANY_VALUES if not isinstance(value, str)]:
            self.refused(console, command, BadCommand)
        for command in ("", " ", "a", "exact", "Server", "server ", " server", "server 3", "server\n", "site site", "site 3", "few 3", "few ", "few\n",
                        "table", "table ", "table x", "table 03", "table 1000001", "table 3 4", "table -1", "table \u0663", "table /a",
                        "safe", "safe  3", "safe 3 ", "safe +3", "safe 3.0", "safe /a", "safe 3 /a", "safe " + "9" * 5000,
                        "ask", "ask 3", "ask /a", "ask /a 3", "ask 3 a", "ask 3 /a/", "ask 3 /a /b", "ask  3 /a", "ask 3  /a", "ask 3 /A", "ask 3 /a\n",
                        "ask 3 /*", "ask 10000000 /a", "ask three /a", "kept", "kept 3", "kept 3 /a ", "kept 3 /1", "kept x /a", "kept 3 /a 4",
                        "heir", "heir ", "heir a", "heir 3 /a", "heir /a /b", "heir //", "free", "free 3", "free 3 a", "free /a", "free x /a",
                        "day", "day ", "day x", "day 4 ", "day 04", "day 1000001", "day 4 gone", "day 4 /a", "day 4 /a gone ;", "day 4 /a gone ; ",
                        "day 4 ; /a gone", "day 4 /a gone;/b gone", "day 4 /a gone  ; /b gone", "day 4 /a gone ;  /b gone", "day 4 /a gone /b gone",
                        "day 4 /a gone // /b gone", "day 4 /a to /b for 0", "day 4 /a to /b for 10001", "day 4 /a/b/c/d/e gone", "day 4 /a section s",
                        "day 4\n/a gone", "day 4 /a gone\n", "day 4 /a gone ; /b", "day  4 /a gone", "day /a gone", "days 4", "Day 4",
                        "on", "on ", "on 3", "on 3 put", "on 3 put page u", "on 3 put page u at", "on 3 put page u at a", "on 3 put page u to /a",
                        "on 3 put thing u at /a", "on 3 put page U at /a", "on x put page u at /a", "on 03 put page u at /a", "on 1000001 put page u at /a",
                        "on 3 put page u at /a ", "on  3 put page u at /a", "on 3 put page u at /a\n", "on 3 move page p", "on 3 move page p at /a",
                        "on 3 merge page p into /q", "on 3 merge page p to q", "on 3 merge page p into q r", "on 3 take page p at /x", "on 3 take p",
                        "on 3 take page /x", "on 3 bring page r to /a", "on 3 bring page r", "on put page u at /a", "on 3 drop page p", "on 3 take thing p",
                        "on 3 put page " + "u" * 13 + " at /a", "on 3 put page u at /" + "u" * 13, "on 3 take page p // 4 take page q",
                        "follow /a", "wrong 3", "read", "help", "aska 3 /a", "as 3 /a"):
            self.refused(console, command, BadCommand)

    def test_the_errors_of_day(self):
        console = console_of("day 3 /a gone")
        rules = (exact("b", "gone"), exact("a", *to("b")), exact("b", "page", "p"))
        self.refused(console, "day 4 /b gone ; /a to /b ; /b page p", BadTable, value=rules)
        # The table comes first.
        self.refused(console, "day 3 /b gone ; /a to /b ; /b page p", BadTable, value=rules)
        many = [f"/{one}{two} gone" for one in "abcdefg" for two in "abcdef"][:41]
        self.refused(console, "day 3 " + " ; ".join(many), BadTable)
        for day in (0, 2, 3):
            self.refused(console, f"day {day} /b gone", BadDay, value=day)
            self.refused(console, f"day {day}", BadDay, value=day)
        self.assertEqual(console("day 4 " + " ; ".join(many[:40])), "ok")

    def test_the_errors_of_on(self):
        console = console_of(*THINGS)
        for line, error, kept in (
                ("1 put page u at /a", BadDay, {"value": 1}), ("2 put page p at /a", TakenName, {"name": "p"}),
                ("2 put section r at /a", TakenName, {"name": "r"}), ("2 put page u at /a/b/c/d/e", BadPlace, {"value": tuple("abcde")}),
                ("2 put page p at /a/b/c/d/e", BadPlace, {"value": tuple("abcde")}), ("2 put page u at /x", TakenPlace, {"place": ("x",)}),
                ("1 move page p to /a", BadDay, {"value": 1}), ("2 move page u to /a", UnknownName, {"name": "u"}),
                ("2 move page r to /a", NotStanding, {"name": "r"}), ("2 move page p to /a/b/c/d/e", BadPlace, {"value": tuple("abcde")}),
                ("2 move page p to /y", TakenPlace, {"place": ("y",)}), ("2 move page p to /x", TakenPlace, {"place": ("x",)}),
                ("1 merge page p into q", BadDay, {"value": 1}), ("2 merge page u into q", UnknownName, {"name": "u"}),
                ("2 merge page p into u", UnknownName, {"name": "u"}), ("2 merge page r into q", NotStanding, {"name": "r"}),
                ("2 merge page p into r", NotStanding, {"name": "r"}), ("2 merge page p into p", BadName, {"value": ("p", "p")}),
                ("2 merge page p into s", BadName, {"value": ("p", "s")}), ("1 take page p", BadDay, {"value": 1}),
                ("2 take section u", UnknownName, {"name": "u"}), ("2 take page r", NotStanding, {"name": "r"}),
                ("1 bring page r at /z", BadDay, {"value": 1}), ("2 bring page p at /a", Standing, {"name": "p"}),
                ("2 bring page u at /a", UnknownName, {"name": "u"}), ("2 bring page r at /x", TakenPlace, {"place": ("x",)}),
                ("2 bring page r at /a/b/c/d/e", BadPlace, {"value": tuple("abcde")})):
            self.refused(console, "on " + line, error, **kept)

    def test_a_page_called_a_section(self):
        console = console_of(*THINGS)
        for line, name in (("2 move section p to /a", "p"), ("2 move page s to /a", "s"), ("2 take section p", "p"), ("2 take page t", "t"),
                           ("2 merge section p into q", "p"), ("2 merge page s into t", "s"), ("2 bring section r at /z", "r"),
                           ("2 merge page t into p", "t"),
                           # This comes ahead of all errors of the functions.
                           ("1 move section p to /a", "p"), ("0 take page s", "s"), ("2 move section r to /a", "r"),
                           ("2 move section p to /a/b/c/d/e", "p"), ("2 bring section p at /y", "p"), ("2 merge section p into u", "p"),
                           ("2 take section r", "r"), ("2 merge section p into p", "p")):
            self.refused(console, "on " + line, UnknownName, name=name)
        # Not for what is put, nor for the second name.
        self.refused(console, "on 2 put section p at /a", TakenName, name="p")
        self.refused(console, "on 2 merge page p into t", BadName, value=("p", "t"))

    def test_it_goes_on_behind_an_error(self):
        console = console_of(*THINGS)
        self.refused(console, "on 2 take section p", UnknownName, name="p")
        self.assertEqual(console("on 2 take page p"), "ok")
        self.assertEqual([console("heir /x"), console("heir /x/y")], ["gone", "section s /y"])


class Names(ConsoleTest):
    def test_names_that_are_words_of_commands(self):
        console = console_of("on 1 put page to at /at", "on 1 put section page at /into", "on 1 move page to to /to", "on 1 put section at at /page",
                             "on 1 merge section page into at", "day 1 /to page to ; /page/* section at ; /into/* to /page for 3 ; /at to /to for 3")
        self.check(console, ("heir /at", "page to"), ("heir /into/x", "section at /x"), ("ask 1 /to", "page to"), ("safe 1", "safe"))

    def test_what_is_told_once_more(self):
        # What a console tells of its server and site makes an equal one.
        pick = random.Random(62)
        for _ in range(20):
            one, two = Console(), Console()
            server, site = some_plan(pick)
            for line in site_text(site).split("\n") if site.last is not None else []:
                one("on " + line)
            for day in server.days:
                rules = [rule_text(rule) for rule in server.table(day).rules]
                one(f"day {day} " + " ; ".join(rules) if rules else f"day {day}")
            for line in one("site").split(" // ") if one("site") else []:
                two("on " + line)
            for part in (" // " + one("server")).split(" // day ")[1:]:
                two("day " + part.replace(" // ", " ", 1).replace(" // ", " ; "))
            self.assertEqual((one("site"), one("server")), (two("site"), two("server")))


if __name__ == "__main__":
    unittest.main()
