"""Points 7 and 24: where walks by one table land, and where two tables lead."""

import random
import unittest

from leadsever.heads import lands, leads_differ
from leadsever.tables import Table
from leadsever.walks import walked
from leadsever.words import strange_word
from plain import all_addresses, key, plain_words, some_rules, some_table
from test_walks import LETTERS, counter


def end_of(table, address):
    """The end to which a walk leads, or None."""
    found = lands(table, address)
    return found and found[0]


class Lands(unittest.TestCase):
    def test_example(self):
        self.assertEqual(lands(counter(3), ("c",)), (("nothing",), 7))

    def test_no_redirect(self):
        table = Table([("exact", ("a",), ("page", "p")), ("open", ("b",), ("section", "s")), ("open", ("c",), ("gone",))])
        for address, due in (((), ("nothing",)), (("a",), ("page", "p")), (("a", "a"), ("nothing",)),
                             (("b",), ("section", "s", ())), (("b", "zz", "b"), ("section", "s", ("zz", "b"))),
                             (("c", "x"), ("gone",))):
            self.assertEqual(lands(table, address), (due, 0))
            self.assertEqual(lands(address=list(address), table=table), (due, 0))
        self.assertEqual(lands(Table(), ("a",) * 5000), (("nothing",), 0))

    def test_words_that_no_rule_has(self):
        table = Table([("open", (), ("to", ("b",), 0)), ("open", ("b",), ("section", "s")), ("open", ("c",), ("to", (), 3))])
        for words in (("zz",), ("a",), ("aa",), ("a", "aa", "zz"), ("zz", "a", "zz")):
            self.assertEqual(lands(table, words), (("section", "s", words), 1))
            self.assertEqual(lands(table, ("c", "c") + words), (("section", "s", words), 3))

    def test_words_of_targets_alone(self):
        table = Table([("open", ("a",), ("to", ("d", "e"), 0)), ("open", (), ("section", "s"))])
        self.assertEqual(lands(table, ("a", "e", "f")), (("section", "s", ("d", "e", "e", "f")), 1))
        self.assertEqual(lands(table, ("d",)), (("section", "s", ("d",)), 0))

    def test_exact_beside_open(self):
        table = Table([("exact", ("a",), ("to", ("b",), 0)), ("open", ("a",), ("to", ("c",), 0)),
                       ("open", ("b",), ("section", "s")), ("open", ("c",), ("section", "t"))])
        self.assertEqual(lands(table, ("a",)), (("section", "s", ()), 1))
        self.assertEqual(lands(table, ("a", "b")), (("section", "t", ("b",)), 1))

    def test_no_end(self):
        for rules in ([("open", ("a",), ("to", ("a",), 0))], [("open", ("a",), ("to", ("a", "b"), 0))],
                      [("open", ("a",), ("to", ("b",), 5)), ("open", ("b",), ("to", ("a", "a"), 9))],
                      [("exact", ("a",), ("to", (), 0)), ("exact", (), ("to", ("a",), 0))]):
            self.assertIsNone(lands(Table(rules), ("a",)))
            self.assertEqual(lands(Table(rules), ("zz",)), (("nothing",), 0))

    def test_a_walk_of_very_many_redirects(self):
        self.assertEqual(lands(counter(26), ("z",)), (("nothing",), 2 ** 26 - 1))
        rules = [("open", (two,), ("to", (one,) * 4, 0)) for one, two in zip(LETTERS, LETTERS[1:])]
        table = Table([("open", ("a",), ("to", (), 0)), *rules])
        steps = 0
        for letter in LETTERS:
            steps = 4 * steps + 1
            self.assertEqual(lands(table, (letter,)), (("nothing",), steps))
        self.assertGreater(steps, 2 ** 36)
        self.assertEqual(lands(table, ("z",) * 5000), (("nothing",), 5000 * steps))
        self.assertEqual(lands(table, ("z", "b", "q")), (("nothing",), steps + 5 + (4 ** 17 - 1) // 3))

    def test_a_full_table(self):
        # 40 rules, more than 2 ** 60 redirects, and the rest comes to a section at last.
        names = [one + two for one in "abcde" for two in "abcdefgh"]
        rules = [("open", (two,), ("to", (one, one, one), 0)) for one, two in zip(names, names[1:])]
        table = Table([("open", ("aa",), ("to", (), 0)), *rules[:-1], ("open", ("end",), ("section", "s"))])
        end, steps = lands(table, (names[38], "end", "zz"))
        self.assertEqual((end, steps), (("section", "s", ("zz",)), (3 ** 39 - 1) // 2))
        self.assertGreater(steps, 2 ** 60)

    def test_long_addresses(self):
        table = Table([("open", ("a",), ("to", (), 0)), ("open", ("b",), ("section", "s"))])
        self.assertEqual(lands(table, ("a",) * 4999), (("nothing",), 4999))
        self.assertEqual(lands(table, ("a",) * 2500 + ("b",) * 2500), (("section", "s", ("b",) * 2499), 2500))
        words = tuple(one + two + three for one in LETTERS for two in LETTERS for three in LETTERS)[:5000]
        self.assertEqual(lands(Table([("open", (), ("to", ("b",), 0)), ("open", ("b",), ("section", "s"))]), words),
                         (("section", "s", words), 1))

    def test_tables_stay_as_they_are(self):
        table = counter(3)
        address = ["c", "x"]
        lands(table, address)
        self.assertEqual((table, address), (counter(3), ["c", "x"]))

    def test_against_walking(self):
        pick = random.Random(16)
        ends = set()
        for _ in range(300):
            words = pick.choice(["a", "ab", "abc"])
            table = some_table(pick, words, pick.randrange(9), longest=pick.choice([1, 2, 3]), ends=pick.choice([0, 1, 2]))
            for address in all_addresses(words + "x", 3):
                walk, end, found = walked(table, address, steps=300)
                if end is not None:
                    self.assertEqual(lands(table, address), (end, len(walk) - 1))
                elif found is not None:
                    self.assertIsNone(lands(table, address))
                ends.add(end)
        self.assertGreater(len(ends), 20)


class LeadsDiffer(unittest.TestCase):
    def check(self, first, second, due):
        one, two = Table(first), Table(second)
        self.assertEqual(leads_differ(one, two), due)
        self.assertEqual(leads_differ(two, one), due)
        self.assertEqual(leads_differ(second=two, first=one), due)
        self.assertEqual((one, two), (Table(first), Table(second)))

    def test_equal_tables(self):
        for rules in ([], [("open", ("a",), ("to", ("a",), 0))], [("open", (), ("section", "s")), ("exact", (), ("gone",))]):
            self.check(rules, rules, None)

    def test_other_ways_to_the_same_ends(self):
        first = [("open", ("a",), ("to", ("b",), 0)), ("open", ("b",), ("to", ("c",), 0)), ("open", ("c",), ("section", "s"))]
        second = [("open", ("a",), ("to", ("c",), 9)), ("open", ("b",), ("section", "s")), ("open", ("c",), ("section", "s"))]
        self.check(first, second, None)
        self.check(first, [*second, ("exact", ("b", "d"), ("to", ("a", "d"), 0))], None)
        self.check(first, [*second, ("exact", ("b", "d"), ("to", ("a",), 0))], ("b", "d"))

    def test_neither_comes_to_an_end(self):
        self.check([("open", ("a",), ("to", ("a",), 0))], [("open", ("a",), ("to", ("a", "b"), 0))], None)
        self.check([("open", ("a",), ("to", ("a",), 0))], [("open", ("a",), ("gone",))], ("a",))
        self.check([("open", ("a",), ("to", ("a",), 0))], [], ("a",))

    def test_kinds_of_ends(self):
        self.check([], [("exact", ("a",), ("gone",))], ("a",))
        self.check([("exact", ("a",), ("page", "p"))], [("exact", ("a",), ("page", "q"))], ("a",))
        self.check([("open", ("a",), ("section", "p"))], [("open", ("a",), ("section", "q"))], ("a",))
        self.check([("exact", ("a",), ("page", "p"))], [("open", ("a",), ("section", "p"))], ("a",))

    def test_least(self):
        self.check([("open", ("b",), ("gone",)), ("open", ("a", "a"), ("gone",))], [], ("b",))
        self.check([("open", ("b",), ("gone",)), ("open", ("aa",), ("gone",))], [], ("aa",))
        self.check([], [("open", (), ("gone",))], ())

    def test_words_that_no_rule_has(self):
        first = [("exact", (), ("gone",)), ("open", ("a",), ("gone",)), ("open", ("b",), ("gone",))]
        self.check(first, [("open", (), ("gone",))], ("aa",))

    def test_rests_that_are_the_same_by_chance(self):
        # The word 'c' is taken away and put in again, which is as if it had been handed on.
        first = [("open", ("a",), ("section", "s")), ("open", ("d",), ("section", "s"))]
        self.check(first, [*first, ("open", ("a", "c"), ("to", ("d", "c"), 0))], None)
        self.check(first, [*first, ("open", ("a", "c"), ("to", ("d", "b"), 0))], ("a", "c"))
        self.check(first, [*first, ("open", ("a", "c"), ("to", ("d",), 0))], ("a", "c"))
        self.check(first, [*first, ("exact", ("a", "c"), ("to", ("d", "c", "c"), 0))], ("a", "c"))

    def test_one_has_come_to_its_end_and_the_other_goes_on_reading(self):
        # By the second table each 'a' is taken away; both come to the rest () for 'a' alone.
        first = [("open", ("a",), ("section", "s"))]
        second = [("open", ("a",), ("to", ("b",), 0)), ("open", ("b", "a"), ("to", ("b",), 0)),
                  ("open", ("b",), ("section", "s"))]
        self.check(first, [*second, ("open", ("c",), ("gone",))], ("b",))
        self.check([*first, ("open", ("b",), ("section", "s"))], second, ("a", "a"))

    def test_an_address_of_many_words(self):
        # The walks read one word after the other, and differ at the sixth one alone.
        rules = [("open", ("a",), ("to", ("b",), 0)), ("exact", ("b",), ("gone",)), ("open", ("b",), ("gone",)),
                 ("open", ("b", "a"), ("to", ("c",), 0)), ("exact", ("c",), ("gone",)), ("open", ("c",), ("gone",)),
                 ("open", ("c", "a"), ("to", ("d",), 0)), ("exact", ("d",), ("gone",)), ("open", ("d",), ("gone",)),
                 ("open", ("d", "a"), ("to", ("e", "f", "g", "h"), 0)), ("open", ("e", "f", "g", "h"), ("gone",)),
                 ("open", ("e",), ("gone",))]
        table = Table(rules)
        self.assertEqual(leads_differ(table, table.with_rule(("open", ("d", "a"), ("section", "s")))), ("d", "a"))
        other = table.with_rule(("open", ("e", "f", "g", "h", ), ("section", "s")))
        self.assertEqual(leads_differ(table, other), ("d", "a"))
        guarded = [("exact", place, ("gone",)) for place in (("d", "a"), ("c", "a", "a"), ("b", "a", "a", "a"))]
        one = Table([*rules, *guarded])
        two = one.with_rule(("open", ("d", "a"), ("section", "s")))
        self.assertEqual(leads_differ(one, two), ("d", "a", "a"))

    def test_full_tables(self):
        pick = random.Random(17)
        words = [one + two for one in LETTERS[:8] for two in LETTERS[:8]]
        rules = {}
        while len(rules) < 40:
            place = tuple(pick.choice(words) for _ in range(4))
            rules[place] = ("open", place, pick.choice([("section", "s"), ("to", place[::-1], 0), ("to", place[1:], 0)]))
        table = Table(list(rules.values()))
        self.assertIsNone(leads_differ(table, Table(table.rules)))
        sort, place, _ = table.rules[-1]
        self.assertEqual(leads_differ(table, table.with_rule((sort, place, ("gone",)))), place)

    def test_against_all_addresses(self):
        pick = random.Random(18)
        seen = set()
        for _ in range(250):
            words = pick.choice(["a", "ab", ["aa", "b"]])
            more = {"longest": pick.choice([1, 2, 3]), "ends": pick.choice([0, 1, 2])}
            rules = {rule[:2]: rule for rule in some_rules(pick, words, pick.randrange(8), **more)}
            first = Table(list(rules.values()))
            rules.update({rule[:2]: rule for rule in some_rules(pick, words, pick.randrange(3), **more)})
            for place in sorted(rules)[:pick.choice([0, 0, 1])]:
                del rules[place]
            second = Table(list(rules.values()))
            found = leads_differ(first, second)
            tried = sorted(plain_words([first, second]))
            for address in all_addresses([*tried, strange_word(tried)], 4):
                if found is not None and key(address) > key(found):
                    break
                differ = end_of(first, address) != end_of(second, address)
                self.assertIs(differ, address == found, (first.rules, second.rules, address))
            seen.add(found)
            self.assertEqual(leads_differ(second, first), found)
        self.assertIn(None, seen)
        self.assertGreater(len(seen), 15)


if __name__ == "__main__":
    unittest.main()
