"""Point 7, as far as it is about answering alike: answers_differ."""

import itertools
import random
import unittest

from leadsever.tables import Table, answers_differ


def told(table, address):
    """Point 6 word by word, from the rules alone."""
    for sort, place, answer in table.rules:
        if sort == "exact" and place == address:
            return answer
    fitting = [rule for rule in table.rules if rule[0] == "open" and address[:len(rule[1])] == rule[1]]
    if not fitting:
        return ("nothing",)
    _, place, answer = max(fitting, key=lambda rule: len(rule[1]))
    rest = address[len(place):]
    if answer[0] == "section":
        return ("section", answer[1], rest)
    if answer[0] == "to":
        return ("to", answer[1] + rest, answer[2])
    return answer


def least_of(first, second, words, size):
    """The least of all addresses of some words, ascending, to which two tables do not answer alike."""
    for many in range(size + 1):
        for address in itertools.product(words, repeat=many):
            if told(first, address) != told(second, address):
                return address
    return None


class Differ(unittest.TestCase):
    def check(self, first, second, due):
        one, two = Table(first), Table(second)
        self.assertEqual(answers_differ(one, two), due)
        self.assertEqual(answers_differ(two, one), due)
        self.assertIsNone(answers_differ(one, one))
        self.assertEqual((one, two), (Table(first), Table(second)))

    def test_example(self):
        self.check([("open", ("a",), ("gone",))], [("exact", ("a",), ("gone",))], ("a", "a"))

    def test_without_rules(self):
        self.check([], [], None)
        self.check([], [("open", (), ("gone",))], ())
        self.check([], [("exact", (), ("gone",))], ())
        self.check([], [("open", ("b", "c"), ("gone",))], ("b", "c"))

    def test_by_name(self):
        self.assertEqual(answers_differ(first=Table(), second=Table([("open", ("b",), ("gone",))])), ("b",))

    def test_equal_tables(self):
        rules = [("open", ("a",), ("to", ("b",), 1)), ("exact", ("a",), ("page", "p")), ("open", (), ("gone",))]
        self.check(rules, rules[::-1], None)

    def test_rules_that_say_the_same(self):
        self.check([("open", (), ("to", ("a",), 5))],
                   [("open", (), ("to", ("a",), 5)), ("open", ("b",), ("to", ("a", "b"), 5))], None)
        self.check([("open", (), ("gone",))],
                   [("open", (), ("gone",)), ("open", ("b",), ("gone",)), ("exact", ("c", "d"), ("gone",))], None)
        self.check([("open", ("a",), ("section", "s"))],
                   [("open", ("a",), ("section", "s")), ("open", ("a", "b"), ("section", "s"))], ("a", "b"))
        self.check([("open", ("a",), ("to", ("x",), 0))],
                   [("open", ("a",), ("to", ("x",), 0)), ("exact", ("a", "c"), ("to", ("x", "c"), 0))], None)

    def test_days_and_targets_count(self):
        self.check([("open", ("a",), ("to", ("b",), 1))], [("open", ("a",), ("to", ("b",), 2))], ("a",))
        self.check([("open", ("a",), ("to", ("b",), 1))], [("open", ("a",), ("to", ("c",), 1))], ("a",))
        self.check([("exact", ("a",), ("page", "p"))], [("exact", ("a",), ("page", "q"))], ("a",))

    def test_the_strange_word(self):
        # Behind () all places that both have are told apart; only other words are answered otherwise.
        taken = [("open", (word,), ("gone",)) for word in ("a", "aa", "b")]
        home = ("exact", (), ("gone",))
        self.check([home, *taken], [home, *taken, ("open", (), ("gone",))], ("aaa",))
        below = [("open", ("b", word), ("gone",)) for word in ("a", "aa", "aaa")]
        self.check([*below, ("open", ("b",), ("gone",))], [*below, ("exact", ("b",), ("gone",))], ("b", "aaaa"))

    def test_a_word_that_is_strange_there_alone(self):
        # 'a' stands in a place, but not behind 'b': there it is the least word that is in no rule.
        first = [("open", ("a", "a"), ("gone",)), ("open", ("b",), ("gone",))]
        second = [("open", ("a", "a"), ("gone",)), ("exact", ("b",), ("gone",))]
        self.check(first, second, ("b", "a"))

    def test_more_words_than_any_place_has(self):
        place = ("b", "c", "d", "e")
        for size in range(5):
            self.check([("open", place[:size], ("gone",))], [("exact", place[:size], ("gone",))], place[:size] + ("a",))
        self.check([("open", place, ("to", (), 0)), ("exact", place, ("gone",))],
                   [("exact", place, ("gone",))], place + ("a",))

    def test_fewer_words_come_first(self):
        first = [("open", ("z",), ("gone",)), ("open", ("a", "a"), ("gone",))]
        self.check(first, [], ("z",))
        self.check([("exact", ("b",), ("gone",)), ("exact", ("aa",), ("gone",))], [], ("aa",))

    def test_a_full_table(self):
        words = [one + two for one in "abcdefg" for two in "abcdef"][:40]
        rules = [("open", ("q", "r", "s", word), ("to", ("x",), 3)) for word in words]
        other = rules[:-1] + [("exact", *rules[-1][1:])]
        self.check(rules, other, ("q", "r", "s", words[-1], "a"))

    def test_what_is_returned_is_new(self):
        rule = ("open", ("b",), ("gone",))
        self.assertIsNot(answers_differ(Table([rule]), Table()), rule[1])
        self.assertIsInstance(answers_differ(Table([rule]), Table()), tuple)

    def test_against_all_addresses(self):
        # With places of at most two of these words the least address needs at most three of them,
        # and the words 'aaa' or 'ab' where all others are taken.
        pick = random.Random(11)
        words = ["a", "aa", "b"]
        places = [place for size in range(3) for place in itertools.product(words, repeat=size)]
        found = []
        for _ in range(600):
            common = self.some_rules(pick, places, pick.randrange(12))
            tables = []
            for _ in range(2):
                rules = common + self.some_rules(pick, places, pick.randrange(3))
                tables.append(Table(list({rule[:2]: rule for rule in rules}.values())))
            due = least_of(*tables, ["a", "aa", "aaa", "ab", "b"], 3)
            self.assertEqual(answers_differ(*tables), due, [table.rules for table in tables])
            found.append(due)
        self.assertIn(None, found)
        self.assertGreater(len(set(found)), 20)

    def some_rules(self, pick, places, many):
        rules = []
        for _ in range(many):
            sort = pick.choice(["exact", "open"])
            own = ("page", "p") if sort == "exact" else ("section", "s")
            redirect = ("to", pick.choice(places), pick.choice([0, 3]))
            rules.append((sort, pick.choice(places), pick.choice([own, ("gone",), redirect, redirect])))
        return rules


if __name__ == "__main__":
    unittest.main()
