"""Points 15 to 17: tables of claims, and heirs."""

import random
import unittest

from leadsever.errors import LeadError
from leadsever.heirs import address_of, claims_table, fits, heir, heirs_differ, standing
from leadsever.sites import Site
from leadsever.tables import Table
from leadsever.words import strange_word
from happened import happen, plain_claims_table, plain_heir, some_site
from plain import all_addresses, key, plain_words

GONE = ("gone",)


def site_of(*events):
    site = Site()
    for event in events:
        happen(site, event)
    return site


def put(sort, name, *place):
    return (0, "put", sort, name, place)


def move(name, *place):
    return (0, "move", None, name, place)


def bring(name, *place):
    return (0, "bring", None, name, place)


def take(name):
    return (0, "take", None, name)


def merge(name, other):
    return (0, "merge", None, name, other)


DOCS = [put("section", "docs", "docs"), move("docs", "manual"), put("page", "faq", "manual", "faq")]


class ClaimsTable(unittest.TestCase):
    def check(self, events, due):
        site = site_of(*events)
        before = site.copied()
        self.assertEqual(claims_table(site), Table(due))
        self.assertEqual(claims_table(site=site), plain_claims_table(site))
        self.assertEqual(site, before)

    def test_without_anything(self):
        self.check([], [])

    def test_what_stands(self):
        self.check([put("page", "home"), put("section", "all"), put("page", "p", "a", "b", "c", "d")],
                   [("exact", (), ("page", "home")), ("open", (), ("section", "all")),
                    ("exact", ("a", "b", "c", "d"), ("page", "p"))])

    def test_a_page_and_a_section_of_one_place(self):
        events = [put("page", "p", "x"), put("section", "s", "x")]
        rules = [("exact", ("x",), ("page", "p")), ("open", ("x",), ("section", "s"))]
        self.check(events, rules)
        self.check([*events, take("s")], [rules[0], ("open", ("x",), GONE)])
        self.check([*events, move("p", "y")], [("exact", ("x",), ("to", ("y",), 0)), rules[1], ("exact", ("y",), ("page", "p"))])

    def test_moved(self):
        self.check(DOCS, [("open", ("docs",), ("to", ("manual",), 0)), ("open", ("manual",), ("section", "docs")),
                          ("exact", ("manual", "faq"), ("page", "faq"))])
        self.check([*DOCS, move("docs", "docs")], [("open", ("docs",), ("section", "docs")),
                                                   ("open", ("manual",), ("to", ("docs",), 0)),
                                                   ("exact", ("manual", "faq"), ("page", "faq"))])

    def test_merged_in_chains(self):
        pages = [put("page", name, name) for name in "pqrs"]
        chain = [merge("p", "q"), merge("q", "r"), merge("r", "s")]
        self.check([*pages, *chain], [("exact", ("s",), ("page", "s")),
                                      *[("exact", (name,), ("to", ("s",), 0)) for name in "pqr"]])
        self.check([*pages, *chain, move("s", "t")], [("exact", ("t",), ("page", "s")),
                                                      *[("exact", (name,), ("to", ("t",), 0)) for name in "pqrs"]])
        self.check([*pages, *chain, take("s")], [("exact", (name,), GONE) for name in "pqrs"])
        self.check([*pages, *chain, bring("q", "t")], [
            ("exact", ("s",), ("page", "s")), ("exact", ("t",), ("page", "q")), ("exact", ("p",), ("to", ("t",), 0)),
            ("exact", ("q",), ("to", ("t",), 0)), ("exact", ("r",), ("to", ("s",), 0))])

    def test_merged_in_turn(self):
        events = [put("section", "s", "s"), put("section", "t", "t"), merge("s", "t"), bring("s", "u"), merge("t", "s")]
        self.check(events, [("open", ("s",), ("to", ("u",), 0)), ("open", ("t",), ("to", ("u",), 0)),
                            ("open", ("u",), ("section", "s"))])

    def test_taken_away_and_brought_back(self):
        events = [put("page", "p", "x"), take("p")]
        self.check(events, [("exact", ("x",), GONE)])
        self.check([*events, bring("p", "y")], [("exact", ("x",), ("to", ("y",), 0)), ("exact", ("y",), ("page", "p"))])
        self.check([*events, bring("p", "x")], [("exact", ("x",), ("page", "p"))])
        self.check([*events, bring("p", "y"), take("p")], [("exact", ("x",), GONE), ("exact", ("y",), GONE)])

    def test_the_claim_that_was_made_last(self):
        events = [put("page", "p", "x"), move("p", "y"), put("page", "q", "x"), take("q")]
        self.check(events, [("exact", ("x",), GONE), ("exact", ("y",), ("page", "p"))])
        self.check([*events, bring("q", "z")], [("exact", ("x",), ("to", ("z",), 0)), ("exact", ("y",), ("page", "p")),
                                                ("exact", ("z",), ("page", "q"))])

    def test_what_is_put_over_a_place_later(self):
        page, section = put("page", "p", "a", "b"), put("section", "s", "a", "b")
        for place in ((), ("a",)):
            over = put("section", "t", *place)
            rule = ("open", place, ("section", "t"))
            self.check([page, take("p"), over], [rule])
            self.check([section, take("s"), over], [rule])
            self.check([page, over, take("p")], [rule, ("exact", ("a", "b"), GONE)])
            self.check([section, over, take("s")], [rule, ("open", ("a", "b"), GONE)])
            self.check([page, section, take("s"), over], [rule, ("exact", ("a", "b"), ("page", "p"))])

    def test_a_section_at_the_very_place(self):
        self.check([put("page", "p", "a"), take("p"), put("section", "s", "a")], [("open", ("a",), ("section", "s"))])
        self.check([put("page", "p"), take("p"), put("section", "s")], [("open", (), ("section", "s"))])
        self.check([put("section", "s", "a"), take("s"), put("section", "t", "a")], [("open", ("a",), ("section", "t"))])
        self.check([put("section", "s", "a"), take("s"), put("section", "t", "a"), take("t")], [("open", ("a",), GONE)])

    def test_what_is_put_elsewhere_later(self):
        for over in (put("section", "t", "a", "b", "c"), put("section", "t", "b"), put("page", "t", "a"), put("page", "t")):
            rule = ("exact" if over[2] == "page" else "open", over[4], (over[2], "t"))
            self.check([put("section", "s", "a", "b"), take("s"), over], [rule, ("open", ("a", "b"), GONE)])

    def test_what_has_been_put_over_it_and_is_gone(self):
        events = [put("page", "p", "a", "b"), take("p"), put("section", "t", "a"), take("t")]
        self.check(events, [("open", ("a",), GONE)])
        events = [put("page", "p", "a", "b"), take("p"), put("section", "t", "a"), move("t", "c")]
        self.check(events, [("open", ("a",), ("to", ("c",), 0)), ("open", ("c",), ("section", "t"))])

    def test_moved_away_and_then_over_it(self):
        # The other claim was made after this one had ended, by whatever made it.
        events = [put("section", "s", "x"), put("page", "p", "a", "b"), move("p", "c"), move("s", "a")]
        self.check(events, [("open", ("x",), ("to", ("a",), 0)), ("exact", ("c",), ("page", "p")),
                            ("open", ("a",), ("section", "s"))])
        self.check([put("section", "s", "x"), take("s"), put("page", "p", "a", "b"), take("p"), bring("s", "a")],
                   [("open", ("x",), ("to", ("a",), 0)), ("open", ("a",), ("section", "s"))])

    def test_a_move_makes_another_claim_at_once(self):
        # A section that moves to a shorter place does not fall to itself.
        self.check([put("section", "s", "a", "b"), move("s", "a")],
                   [("open", ("a", "b"), ("to", ("a",), 0)), ("open", ("a",), ("section", "s"))])
        self.check([put("section", "s", "a", "b"), move("s", "c"), move("s", "a")],
                   [("open", ("c",), ("to", ("a",), 0)), ("open", ("a",), ("section", "s"))])
        self.check([put("section", "s", "a", "b"), move("s"), move("s", "a")],
                   [("open", (), ("to", ("a",), 0)), ("open", ("a",), ("section", "s"))])

    def test_a_section_that_moves_within_itself(self):
        self.check([put("section", "s", "a"), move("s", "a", "b")],
                   [("open", ("a",), ("to", ("a", "b"), 0)), ("open", ("a", "b"), ("section", "s"))])

    def test_40_rules(self):
        events = [put("page", letter + other, letter) for letter, other in zip("abcdefghijklmnopqrstuvwxyz", "a" * 26)]
        events += [put("section", letter + other, letter) for letter, other in zip("abcdefghijklmn", "b" * 14)]
        self.assertEqual(len(claims_table(site_of(*events))), 40)
        # Many more claims than that, but of places that fell to what was put over them.
        site = Site()
        for at in range(60):
            name = "abcdefghij"[at // 10] + "abcdefghij"[at % 10]
            site.put_page(0, name, ("x", name))
            site.take(0, name)
        site.put_section(0, "s", ("x",))
        self.assertEqual(claims_table(site), Table([("open", ("x",), ("section", "s"))]))

    def test_by_chance(self):
        pick = random.Random(21)
        seen = set()
        for _ in range(300):
            site = some_site(pick, "ab", pick.choice([5, 20, 60]), names="pqrstu")
            self.assertEqual(claims_table(site), plain_claims_table(site))
            seen.update((rule[0], rule[2][0]) for rule in claims_table(site).rules)
        self.assertEqual(len(seen), 6)


class Heirs(unittest.TestCase):
    def check(self, events, *rows):
        site = site_of(*events)
        before = site.copied()
        for address, due, place in rows:
            self.assertEqual(heir(site, address), due)
            self.assertEqual(heir(address=list(address), site=site), due)
            if due is not None:
                self.assertEqual(address_of(site, due), place)
                self.assertEqual(address_of(heir=due, site=site), place)
        self.assertEqual(site, before)

    def test_example(self):
        self.check(DOCS, (("docs", "x"), ("section", "docs", ("x",)), ("manual", "x")),
                   (("docs", "faq"), ("page", "faq"), ("manual", "faq")), (("x",), None, None))

    def test_without_anything(self):
        self.check([], ((), None, None), (("a",), None, None), (("a",) * 5000, None, None))

    def test_strange_words_and_long_addresses(self):
        rest = ("zz", "y") * 2499
        self.check(DOCS, (("docs",) + rest, ("section", "docs", rest), ("manual",) + rest),
                   (("docs", "faq") + rest, ("section", "docs", ("faq",) + rest), ("manual", "faq") + rest),
                   (("zz", "docs"), None, None), (("manual", "a", "b", "c", "d"), ("section", "docs", ("a", "b", "c", "d")),
                                                  ("manual", "a", "b", "c", "d")))

    def test_a_page_and_a_section_of_one_place(self):
        self.check([put("page", "p", "x"), put("section", "s", "x")], (("x",), ("page", "p"), ("x",)),
                   (("x", "y"), ("section", "s", ("y",)), ("x", "y")))
        self.check([put("page", "p"), put("section", "s")], ((), ("page", "p"), ()), (("y",), ("section", "s", ("y",)), ("y",)))

    def test_gone(self):
        self.check([put("page", "p", "x"), take("p")], (("x",), GONE, None), (("x", "y"), None, None))
        self.check([put("section", "s", "x"), take("s")], (("x",), GONE, None), (("x", "y"), GONE, None), ((), None, None))
        self.check([put("section", "s", "x"), take("s"), put("section", "t")], (("x", "y"), ("section", "t", ("x", "y")), ("x", "y")))

    def test_merged_and_moved(self):
        events = [put("section", "s", "s"), put("section", "t", "t"), merge("s", "t"), move("t", "u", "v")]
        self.check(events, (("s", "x"), ("section", "t", ("x",)), ("u", "v", "x")), (("t",), ("section", "t", ()), ("u", "v")))

    def test_old_addresses_within_a_section_that_moved(self):
        events = [put("section", "s", "a"), put("page", "p", "b", "x"), put("page", "q", "a", "y"), move("q", "c"), move("s", "b")]
        self.check(events, (("a", "x"), ("page", "p"), ("b", "x")), (("a", "y"), ("page", "q"), ("c",)),
                   (("b", "y"), ("section", "s", ("y",)), ("b", "y")))

    def test_names_that_are_words_of_answers(self):
        for name in ("gone", "nothing", "page", "section", "to", "at", "end"):
            self.check([put("page", name, "x"), put("section", "s", "y")], (("x",), ("page", name), ("x",)))
            self.check([put("section", name, "x"), move(name, "y")], (("x", "z"), ("section", name, ("z",)), ("y", "z")))

    def test_walks_of_many_redirects(self):
        events = [put("section", "s", "a", "b"), move("s", "a")]
        self.check(events, (("a",) + ("b",) * 4999, ("section", "s", ()), ("a",)),
                   (("a",) + ("b",) * 4000 + ("c",) * 999, ("section", "s", ("c",) * 999), ("a",) + ("c",) * 999))

    def test_what_is_returned_is_new(self):
        place = ("x",)
        site = Site()
        site.put_page(0, "p", place)
        site.put_section(0, "s", ("y",))
        self.assertIsNot(address_of(site, ("page", "p")), place)
        self.assertEqual(address_of(site, ["section", "s", ["z"]]), ("y", "z"))
        for address in (("x",), ("y",)):
            self.assertIsInstance(heir(site, address), tuple)

    def test_fits(self):
        ends = [("page", "p"), ("page", "q"), ("section", "p", ()), ("section", "p", ("x",)), ("section", "q", ("x",)), GONE,
                ("nothing",)]
        for end in ends:
            for due in ends[:-1]:
                self.assertIs(fits(end, due), end == due or (end, due) == (("nothing",), GONE))
                self.assertIs(fits(heir=due, end=end), end == due or (end, due) == (("nothing",), GONE))
        self.assertIs(fits(["section", "p", ["x"]], ("section", "p", ("x",))), True)

    def test_by_chance(self):
        pick = random.Random(22)
        seen = set()
        for _ in range(120):
            site = some_site(pick, "ab", pick.choice([5, 20, 60]), names="pqrstu")
            table = plain_claims_table(site)
            for address in all_addresses(["a", "b", "zz"], 4):
                found = heir(site, address)
                self.assertEqual(found, plain_heir(table, address))
                if found not in (None, GONE):
                    place = address_of(site, found)
                    self.assertEqual(heir(site, place), found)
                    self.assertEqual(table.answer(place), found)
                seen.add(found)
        self.assertGreater(len(seen), 30)


class Standing(unittest.TestCase):
    def test_in_order(self):
        site = site_of(put("section", "a"), put("page", "z"), put("page", "p", "b", "a"), put("page", "q", "c"),
                       put("section", "r", "c"), put("page", "t", "aa"), put("page", "u", "u"), take("u"), put("page", "v", "v"),
                       merge("v", "t"))
        due = [("page", (), "z"), ("section", (), "a"), ("page", ("aa",), "t"), ("page", ("c",), "q"), ("section", ("c",), "r"),
               ("page", ("b", "a"), "p")]
        self.assertEqual(standing(site), due)
        standing(site=site).clear()
        self.assertEqual(standing(site), due)
        self.assertEqual(standing(Site()), [])
        self.assertEqual(standing(site_of(put("page", "p"), take("p"))), [])


class Differ(unittest.TestCase):
    def check(self, first, second, due):
        one, two = site_of(*first), site_of(*second)
        self.assertEqual(heirs_differ(one, two), due)
        self.assertEqual(heirs_differ(second=one, first=two), due)
        self.assertEqual((one, two), (site_of(*first), site_of(*second)))

    def test_the_same_heirs(self):
        self.check([], [], None)
        self.check(DOCS, DOCS, None)
        # Other things happened, but for each address they come to the same.
        self.check([put("page", "p", "x"), move("p", "y"), move("p", "x"), put("section", "s")],
                   [put("page", "p", "x"), put("section", "s")], None)
        self.check([put("page", "p", "x"), move("p", "y"), move("p", "x")], [put("page", "p", "x")], ("y",))
        self.check([put("page", "p", "y"), move("p", "x"), move("p", "y"), move("p", "x")], [put("page", "p", "y"), move("p", "x")],
                   None)

    def test_one_has_none(self):
        self.check([], [put("page", "p")], ())
        self.check([], [put("section", "s", "b")], ("b",))
        self.check([], [put("page", "p", "x"), take("p")], ("x",))
        self.check(DOCS, DOCS[:2], ("docs", "faq"))

    def test_different_heirs(self):
        self.check([put("page", "p", "x")], [put("page", "q", "x")], ("x",))
        self.check([put("section", "s", "x")], [put("section", "t", "x")], ("x",))
        self.check([put("section", "s")], [put("page", "s"), put("section", "t")], ())
        self.check([put("section", "s"), put("page", "p")], [put("page", "p")], ("a",))
        self.check([put("section", "s", "a"), put("page", "p", "a")], [put("page", "p", "a")], ("a", "a"))

    def test_where_it_stands_is_not_the_heir(self):
        # The heir of an old address is the page itself, wherever it is now.
        moved = [put("page", "p", "x"), move("p", "y")]
        self.check(moved, [*moved, move("p", "z")], ("z",))
        self.check([put("section", "s", "x"), move("s", "y")], [put("section", "s", "y"), move("s", "x")], None)

    def test_by_chance(self):
        pick = random.Random(23)
        seen = set()
        for _ in range(150):
            one = some_site(pick, "ab", pick.choice([3, 10, 30]), names="pqr")
            two = one.copied()
            for _ in range(pick.randrange(4)):
                what, name = pick.choice(["put", "move", "merge", "take", "bring"]), pick.choice("pqrs")
                last = pick.choice("pqrs") if what == "merge" else tuple(pick.choice("ab") for _ in range(pick.randrange(3)))
                try:
                    happen(two, (two.last or 0, what, pick.choice(["page", "section"]), name, last))
                except LeadError:
                    pass
            found = heirs_differ(one, two)
            words = sorted(plain_words([claims_table(one), claims_table(two)]))
            for address in all_addresses([*words, strange_word(words)], 4):
                if found is not None and key(address) > key(found):
                    break
                self.assertIs(heir(one, address) != heir(two, address), address == found)
            seen.add(found)
        self.assertIn(None, seen)
        self.assertGreater(len(seen), 5)


if __name__ == "__main__":
    unittest.main()
