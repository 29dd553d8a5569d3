"""Points 16, 17 and 21: tables that lead the claims in one step, with as few rules as possible."""

import random
import unittest

from leadsever.fewest import fewest_table, leads_claims, own_rules
from leadsever.heirs import address_of, claims_table, standing
from leadsever.sites import Site
from leadsever.tables import Table
from leadsever.words import strange_word
from happened import plain_claims_table, plain_heir, some_site
from plain import all_addresses, plain_words, some_rules
from served import GONE, exact, let_happen, move, open_, plain_fits, put, site_of, take, to

DOCS = site_of((0, "put", "section", "docs", ("docs",)), (3, "move", "section", "docs", ("manual",)),
               (4, "put", "page", "faq", ("manual", "faq")))


def moved_pages(*words):
    """Pages that moved from a to b, with the same words behind, and other things that nobody put there."""
    site = Site()
    for word in words:
        site.put_page(0, "p" + word, ("a", word))
    for word in words:
        site.move(1, "p" + word, ("b", word))
    return site


class Demanded:
    """Point 21 by looking at all addresses of some words, up to a length."""

    def __init__(self, site, longest, strange=1):
        claims = plain_claims_table(site)
        words = sorted(plain_words([claims]))
        for _ in range(strange):
            words.append(strange_word(words))
        self.site = site
        self.heirs = {address: plain_heir(claims, address) for address in all_addresses(words, longest)}
        self.targets = {address: None if heir in (None, GONE) else address_of(site, heir) for address, heir in self.heirs.items()}

    def is_right(self, table, address):
        answer, due = table.answer(address), self.heirs[address]
        if due is None or plain_fits(answer, due):
            return True
        target = self.targets[address]
        return answer[0] == "to" and target is not None and answer[1] == target != address and table.answer(target) == due

    def first_wrong(self, table):
        for address in self.heirs:
            if not self.is_right(table, address):
                return address
        return None

    def all_have_heirs(self, place):
        return all(heir is not None for address, heir in self.heirs.items() if address[:len(place)] == place)

    def fewest(self, inside, most):
        """The least number of other rules, or None; by trying all rules that make the first wrong address right."""
        for many in range(most + 1):
            if self.reaches(own_rules(self.site), many, inside):
                return many
        return None

    def reaches(self, table, many, inside):
        wrong = self.first_wrong(table)
        if wrong is None:
            return leads_claims(self.site, table)
        target = self.targets[wrong]
        if many == 0 or target == wrong:
            return False
        # If rules are added until all is right, one of them answers this address, and rightly.
        for rule in self.rules_for(wrong, target, inside):
            if rule[2][0] == "gone" or rule[2][1] != rule[1]:
                if all(old[:2] != rule[:2] for old in table.rules):
                    longer = table.with_rule(rule)
                    if self.is_right(longer, wrong) and self.reaches(longer, many - 1, inside):
                        return True
        return False

    def rules_for(self, address, target, inside):
        places = [("exact", address)] if len(address) <= 4 else []
        places += [("open", address[:size]) for size in range(min(4, len(address)) + 1)
                   if not inside or self.all_have_heirs(address[:size])]
        for sort, place in places:
            rest = address[len(place):]
            if target is None:
                yield (sort, place, GONE)
            elif target[len(target) - len(rest):] == rest and len(target) - len(rest) in range(5):
                yield (sort, place, ("to", target[:len(target) - len(rest)], 0))


class OwnRules(unittest.TestCase):
    def test_what_stands(self):
        site = site_of(put(0, "page", "p"), put(0, "section", "s"), put(0, "page", "q", "x"), put(0, "section", "t", "x"),
                       put(0, "page", "r", "y"), take(0, "r"), put(0, "section", "u", "a", "b", "c", "d"))
        due = Table([exact("", "page", "p"), open_("", "section", "s"), exact("x", "page", "q"), open_("x", "section", "t"),
                     open_("abcd", "section", "u")])
        before = site.copied()
        self.assertEqual(own_rules(site), due)
        self.assertEqual(own_rules(site=site), due)
        self.assertIsInstance(own_rules(site), Table)
        self.assertEqual(site, before)
        self.assertEqual(own_rules(Site()), Table())

    def test_where_it_is_now(self):
        self.assertEqual(own_rules(DOCS), Table([("open", ("manual",), ("section", "docs")), ("exact", ("manual", "faq"), ("page", "faq"))]))
        self.assertEqual(own_rules(DOCS.at(0)), Table([("open", ("docs",), ("section", "docs"))]))


class LeadsClaims(unittest.TestCase):
    def check(self, site, rules, due):
        table = Table(rules)
        before = site.copied()
        self.assertIs(leads_claims(site, table), due, rules)
        self.assertIs(leads_claims(table=table, site=site), due)
        self.assertEqual((site, table), (before, Table(rules)))

    def test_example(self):
        own = [("open", ("manual",), ("section", "docs")), ("exact", ("manual", "faq"), ("page", "faq"))]
        for more, due in (([], False), ([("open", ("docs",), ("to", ("manual",), 0))], True),
                          ([("open", ("docs",), ("to", ("manual",), 7))], True), ([("exact", ("docs",), ("to", ("manual",), 0))], False),
                          ([("open", ("docs",), ("to", ("manual", "x"), 0))], False), ([("open", ("docs",), ("gone",))], False),
                          ([("open", (), ("to", (), 0)), ("open", ("docs",), ("to", ("manual",), 0))], True),
                          ([("open", ("docs",), ("to", ("manual",), 0)), ("exact", ("manual", "x"), ("gone",))], False),
                          ([("open", ("docs",), ("to", ("manual",), 0)), ("exact", ("docs", "faq"), ("to", ("manual", "faq"), 0))], True)):
            self.check(DOCS, [*own, *more], due)
            for at in range(2):
                self.check(DOCS, [*own[:at], *own[at + 1:], *more], False)

    def test_without_anything(self):
        for rules, due in (([], True), ([open_("", "gone")], True), ([open_("", *to("x"))], True), ([open_("x", *to("x"))], True),
                           ([exact("x", "page", "p")], False), ([open_("", "section", "s")], False)):
            self.check(Site(), rules, due)

    def test_other_rules_are_redirects_or_gone(self):
        site = site_of(put(0, "page", "p", "x"))
        own = exact("x", "page", "p")
        for rule, due in ((exact("y", "page", "p"), False), (exact("y", "page", "q"), False), (open_("y", "section", "p"), False),
                          (exact("y", "gone"), True), (open_("y", "gone"), True), (exact("y", *to("x")), True), (exact("y", *to("z", 5)), True),
                          (open_("x", "gone"), True), (open_("", "gone"), True)):
            self.check(site, [own, rule], due)
        self.check(site, [exact("x", "page", "q")], False)
        self.check(site, [exact("x", *to("x"))], False)

    def test_what_is_gone(self):
        site = site_of(put(0, "section", "s", "a"), put(0, "page", "p", "a", "b"), take(0, "p"))
        own = open_("a", "section", "s")
        for rules, due in (([], False), ([exact("ab", "gone")], True), ([open_("ab", "gone")], False), ([exact("ab", *to("a"))], False)):
            self.check(site, [own, *rules], due)
        site = site_of(put(0, "page", "p", "x"), take(0, "p"))
        for rules, due in (([], True), ([exact("x", "gone")], True), ([open_("", "gone")], True), ([exact("x", *to("y"))], False)):
            self.check(site, rules, due)

    def test_one_step(self):
        # Where the heir stands now, not by way of an older place.
        site = site_of(put(0, "page", "p", "x"), move(0, "p", "y"), move(0, "p", "z"))
        own = exact("z", "page", "p")
        for rules, due in (([exact("x", *to("z")), exact("y", *to("z"))], True), ([exact("x", *to("y")), exact("y", *to("z"))], False),
                           ([exact("x", *to("z"))], False), ([exact("x", *to("z")), open_("y", *to("z"))], True),
                           ([open_("", *to("z"))], False)):
            self.check(site, [own, *rules], due)

    def test_strange_words(self):
        site = site_of(put(0, "section", "s", "a"), move(0, "s", "b"))
        own = open_("b", "section", "s")
        rules = [open_("a", *to("b"))]
        self.check(site, [own, *rules], True)
        for rule in (exact(("a", "zz"), "gone"), exact("ac", *to("b")), open_("ac", *to("bd")), open_("acd", *to("bc"))):
            self.check(site, [own, *rules, rule], False)
        for rule in (exact(("a", "zz"), *to(("b", "zz"))), open_("ac", *to("bc")), open_("acd", *to("bcd")), open_("c", *to("b"))):
            self.check(site, [own, *rules, rule], True)

    def test_far_behind(self):
        # Each word more is taken away by the claims, which no table does for all addresses.
        site = site_of(put(0, "section", "s", "a", "b"), move(0, "s", "a"))
        rules = [open_("a", "section", "s")]
        for size in (1, 2, 3):
            rules.append(open_("a" + "b" * size, *to("a")))
            self.check(site, rules, False)

    def test_by_chance(self):
        pick = random.Random(51)
        counts = {True: 0, False: 0}
        for _ in range(150):
            site = some_site(pick, pick.choice(["a", "ab"]), pick.choice([3, 8, 20]), names="pqrs")
            table = fewest_table(site) or claims_table(site)
            demanded = Demanded(site, 5)
            for _ in range(5):
                rules = {rule[:2]: rule for rule in table.rules}
                for rule in some_rules(pick, "ab", pick.choice([0, 1, 2]), longest=2):
                    if rule[2][0] in ("to", "gone"):
                        rules[rule[:2]] = rule
                if rules and pick.random() < 0.4:
                    del rules[pick.choice(sorted(rules))]
                tried = Table(list(rules.values()))
                found = leads_claims(site, tried)
                own = own_rules(site).rules
                if any(rule not in tried for rule in own):
                    self.assertIs(found, False)
                elif any(rule[2][0] not in ("to", "gone") for rule in tried.rules if rule not in own):
                    self.assertIs(found, False)
                elif found or demanded.first_wrong(tried) is not None:
                    self.assertIs(found, demanded.first_wrong(tried) is None)
                counts[found] += 1
        self.assertGreater(min(counts.values()), 100)


class Fewest(unittest.TestCase):
    def check(self, site, many, inside=None):
        """Checks how many other rules there are, and that they are right, without and with inside=True."""
        before = site.copied()
        for told, due in ((False, many), (True, many if inside is None else inside)):
            found = fewest_table(site, inside=told)
            self.assertEqual(fewest_table(inside=told, site=site), found)
            if due is None:
                self.assertIsNone(found)
                continue
            own = own_rules(site).rules
            others = [rule for rule in found.rules if rule not in own]
            self.assertEqual(len(others), due, found.rules)
            self.assertIs(leads_claims(site, found), True)
            self.assertTrue(all(rule[2] == GONE or rule[2][2] == 0 for rule in others))
            # Each of the rules is needed.
            for sort, place, _ in found.rules:
                self.assertIs(leads_claims(site, found.without(sort, place)), False)
        self.assertEqual(fewest_table(site), fewest_table(site, inside=False))
        self.assertEqual(site, before)

    def test_example(self):
        self.assertEqual(len(fewest_table(DOCS)), 3)
        self.check(DOCS, 1)
        with self.assertRaises(TypeError):
            fewest_table(DOCS, True)

    def test_nothing_else(self):
        for events in ([], [put(0, "page", "p")], [put(0, "section", "s")], [put(0, "page", "p", "x"), put(0, "section", "s", "x")],
                       [put(0, "page", "p", "a", "b", "c", "d"), put(0, "section", "s", "a")]):
            self.check(site_of(*events), 0)

    def test_what_is_gone_needs_no_rule_of_its_own(self):
        self.check(site_of(put(0, "page", "p", "x"), take(0, "p")), 0)
        self.check(site_of(put(0, "section", "s", "x"), take(0, "s")), 0)
        self.check(site_of(put(0, "section", "s"), take(0, "s")), 0)
        # Unless a section is around it.
        self.check(site_of(put(0, "section", "s"), put(0, "page", "p", "x"), take(0, "p")), 1)
        self.check(site_of(put(0, "section", "s"), put(0, "section", "t", "x", "y"), take(0, "t")), 1)

    def test_things_that_move_alike(self):
        for many in (2, 3, 6):
            self.check(moved_pages(*"uvwxyz"[:many]), 1, many)
        self.check(moved_pages("x"), 1)
        # With a section around, all addresses have an heir.
        site = moved_pages("x", "y", "z")
        site.put_section(1, "s", ("a",))
        self.check(site, 0)
        site.move(1, "s", ("b",))
        self.check(site, 1)

    def test_to_two_places(self):
        site = moved_pages("x", "y", "z")
        site.put_page(1, "q", ("a", "q"))
        site.move(1, "q", ("c", "q"))
        self.check(site, 2, 4)
        site.put_page(1, "r", ("a", "r"))
        site.move(1, "r", ("c", "r"))
        self.check(site, 3, 5)

    def test_out_of_what_has_moved(self):
        events = [put(0, "section", "s", "a"), put(0, "page", "p", "a", "x"), move(0, "s", "b"), move(0, "p", "c")]
        # The place of the page within the section is its own.
        self.check(site_of(*events), 2)
        events = [put(0, "section", "s", "a"), put(0, "section", "t", "a", "x"), move(0, "s", "b"), move(0, "t", "b", "x")]
        self.check(site_of(*events), 1)
        self.check(site_of(*events, move(0, "t", "c")), 3)

    def test_taken_away_within_a_section(self):
        events = [put(0, "section", "s", "a"), put(0, "page", "p", "a", "x"), take(0, "p"), move(0, "s", "b")]
        self.check(site_of(*events), 2)
        events = [put(0, "section", "s", "a"), put(0, "section", "t", "a", "x"), take(0, "t"), move(0, "s", "b")]
        self.check(site_of(*events), 2)

    def test_places_within_old_places(self):
        events = [put(0, "section", "s", "a"), move(0, "s", "b"), put(0, "page", "p", "a", "x"), put(0, "section", "t", "a", "y")]
        self.check(site_of(*events), 1)
        self.check(site_of(*events, move(0, "p", "a", "y", "x"), move(0, "t", "c")), 3)

    def test_a_page_and_a_section_of_one_place(self):
        events = [put(0, "page", "p", "a"), put(0, "section", "s", "a")]
        self.check(site_of(*events, move(0, "p", "b"), move(0, "s", "b")), 1)
        self.check(site_of(*events, move(0, "p", "b"), move(0, "s", "c")), 2)
        self.check(site_of(*events, move(0, "p", "b")), 1)
        self.check(site_of(*events, move(0, "s", "b")), 1)

    def test_the_place_without_words(self):
        self.check(site_of(put(0, "section", "s"), move(0, "s", "a")), 1)
        self.check(site_of(put(0, "page", "p"), move(0, "p", "a")), 1)
        self.check(site_of(put(0, "section", "s", "a"), move(0, "s")), None)
        self.check(site_of(put(0, "page", "p", "a"), move(0, "p")), 1)
        # What has no heir may go anywhere, but not with inside=True.
        self.check(site_of(*[(0, "put", "page", "p" + word, (word,)) for word in "xyz"],
                           *[(0, "move", "page", "p" + word, ("a", word)) for word in "xyz"]), 1, 3)

    def test_none(self):
        # Section within section: readers come from a/b/b/b .. to a, but by no rule of so few words.
        self.check(site_of(put(0, "section", "s", "a", "b"), move(0, "s", "a")), None)
        # An old place within an old place has more words, and 4 are the most.
        for place, many in ((("q", "a"), 3), (("q", "a", "b"), 3), (("q", "a", "b", "c"), None)):
            site = site_of(put(0, "section", "s", "w", "v"), (0, "put", "section", "t", place), move(1, "s", "q"), move(2, "t", "x"))
            self.check(site, many)
            # The same for a single address.
            site = site_of(put(0, "section", "s", "w", "v"), (0, "put", "page", "t", place), move(1, "s", "q"), take(2, "t"))
            self.check(site, many)

    def test_right_behind_4_words(self):
        # What an open rule leads to is right for longer addresses, too.
        for place in (("q", "a"), ("q", "a", "b"), ("q", "a", "b", "c")):
            self.check(site_of(put(0, "section", "s", "w", "v"), (0, "put", "page", "t", place), move(1, "s", "q")), 1)
            self.check(site_of(put(0, "section", "s", "w", "v"), (0, "put", "section", "t", place), move(1, "s", "q")), 1)

    def test_heirs_of_some_addresses_alone(self):
        # The place itself has an heir, but not all that begins with it.
        site = moved_pages("x", "y")
        site.put_page(1, "p", ("a",))
        site.move(1, "p", ("b",))
        self.check(site, 1, 3)
        # All that begins with it has one, but not itself; so this is a section's.
        site = site_of(put(0, "section", "s", "a"), put(0, "page", "p", "a"), move(0, "p", "c"), move(0, "s", "b"))
        self.check(site, 2)

    def test_passing_alone(self):
        self.assertEqual(fewest_table(DOCS).rules[0], ("open", ("docs",), ("to", ("manual",), 0)))

    def test_no_table_has_fewer(self):
        pick = random.Random(52)
        seen = set()
        for _ in range(60):
            words = pick.choice(["a", "ab"])
            site = Site()
            places = list(all_addresses(words, pick.choice([1, 2])))
            for name in "pqrs"[:pick.choice([2, 3, 4])]:
                let_happen(site, (0, "put", pick.choice(["page", "section"]), name, pick.choice(places)))
            for _ in range(pick.choice([1, 3, 6])):
                what = pick.choice(["move", "move", "take", "bring", "merge"])
                last = pick.choice(site.names) if what == "merge" else pick.choice(places)
                let_happen(site, (1, what, None, pick.choice(site.names), last))
            self.check_fewest(site, Demanded(site, 4, strange=3), seen)
        self.assertGreater(len(seen), 5)

    def test_no_table_has_fewer_where_pages_move_alike(self):
        pick = random.Random(53)
        seen = set()
        for _ in range(40):
            site = Site()
            for name in "pqrst"[:pick.choice([2, 3, 5])]:
                let_happen(site, (0, "put", pick.choice(["page", "page", "section"]), name, (pick.choice("ab"), pick.choice("xyz"))))
            for name in site.names:
                if pick.random() < 0.7:
                    let_happen(site, (1, "move", None, name, (pick.choice("abc"), site.place_of(name)[1])))
            self.check_fewest(site, Demanded(site, 3, strange=3), seen)
        self.assertGreater(len(seen), 5)

    def check_fewest(self, site, demanded, seen):
        for inside in (False, True):
            found = fewest_table(site, inside=inside)
            most = 3
            due = demanded.fewest(inside, most)
            if found is None:
                self.assertIsNone(due)
                seen.add((inside, None))
                continue
            many = len(found) - len(standing(site))
            self.assertIs(leads_claims(site, found), True)
            self.assertEqual(due, many if many <= most else None)
            seen.add((inside, many))
            if inside:
                for sort, place, _ in found.rules:
                    if sort == "open" and ("section", place) not in {row[:2] for row in standing(site)}:
                        self.assertTrue(demanded.all_have_heirs(place))


if __name__ == "__main__":
    unittest.main()
