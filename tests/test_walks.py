"""Points 7 and 12: walks by one table, and rounds."""

import random
import unittest

from leadsever.tables import Table
from leadsever.walks import is_round, walked
from plain import all_addresses, plain_is_round, plain_joints, plain_walked, some_rules, some_table
from test_rules import ANY_VALUES

LETTERS = "abcdefghijklmnopqrstuvwxyz"


def counter(many):
    """A table by which the walk from the last of so many letters has 2 ** many - 1 redirects."""
    rules = [("open", (two,), ("to", (one, one), 0)) for one, two in zip(LETTERS, LETTERS[1:many])]
    return Table([("open", ("a",), ("to", (), 0)), *rules])


class Walked(unittest.TestCase):
    def check(self, rules, address, due, **more):
        table = Table(rules)
        self.assertEqual(walked(table, address, **more), due)
        self.assertEqual(table, Table(rules))
        if due[2] is not None:
            self.assertIs(is_round(due[2], due[0], [table]), True)

    def test_example(self):
        self.check([("open", ("a",), ("to", ("a", "b"), 0))], ("a",), ([("a",), ("a", "b")], None, (0, 1, 1)))

    def test_no_redirect(self):
        rules = [("exact", ("a",), ("page", "p")), ("open", ("b",), ("section", "s")), ("open", ("c",), ("gone",))]
        for steps in (0, 1, 1000):
            self.check([], (), ([()], ("nothing",), None), steps=steps)
            self.check(rules, ("a",), ([("a",)], ("page", "p"), None), steps=steps)
            self.check(rules, ("b", "x"), ([("b", "x")], ("section", "s", ("x",)), None), steps=steps)
            self.check(rules, ("c", "x"), ([("c", "x")], ("gone",), None), steps=steps)

    def test_some_redirects(self):
        rules = [("open", ("a",), ("to", ("b",), 0)), ("open", ("b",), ("to", ("c", "d"), 7)),
                 ("exact", ("c", "d", "e"), ("to", (), 10000)), ("exact", (), ("page", "p"))]
        walk = [("a", "e"), ("b", "e"), ("c", "d", "e"), ()]
        self.check(rules, ("a", "e"), (walk, ("page", "p"), None))
        self.check(rules, ["a", "e"], (walk, ("page", "p"), None))
        self.check(rules, ("a", "x"), ([("a", "x"), ("b", "x"), ("c", "d", "x")], ("nothing",), None))

    def test_steps_just_enough_and_one_too_few(self):
        rules = [("exact", (one,), ("to", (two,), 0)) for one, two in zip(LETTERS, LETTERS[1:])]
        walk = [(letter,) for letter in LETTERS]
        self.check(rules, ("a",), (walk, ("nothing",), None), steps=25)
        self.check(rules, ("a",), (walk, ("nothing",), None), steps=26)
        for steps in (0, 1, 23, 24):
            self.check(rules, ("a",), (walk[:steps + 1], None, None), steps=steps)

    def test_1000_steps_unless_told(self):
        for many in (9, 10):
            walk, end, found = walked(counter(many), (LETTERS[many - 1],))
            if many == 9:
                self.assertEqual((len(walk), end, found), (2 ** 9, ("nothing",), None))
            else:
                self.assertEqual((len(walk), end, found), (1001, None, None))
            self.assertEqual(walk, walked(counter(many), (LETTERS[many - 1],), steps=1000)[0])

    def test_many_steps(self):
        table = counter(16)
        walk, end, found = walked(table, ("p",), steps=2 ** 16 - 1)
        self.assertEqual((len(walk), end, found), (2 ** 16, ("nothing",), None))
        walk, end, found = walked(table, ("p",), steps=2 ** 16 - 2)
        self.assertEqual((len(walk), end, found), (2 ** 16 - 1, None, None))

    def test_an_address_twice(self):
        rules = [("exact", ("a",), ("to", ("b",), 0)), ("exact", ("b",), ("to", ("c", "d"), 0)),
                 ("exact", ("c", "d"), ("to", ("b",), 0))]
        walk = [("a",), ("b",), ("c", "d"), ("b",)]
        self.check(rules, ("a",), (walk, None, (1, 3, 1)))
        self.check(rules, ("a",), (walk, None, (1, 3, 1)), steps=3)
        self.check(rules, ("a",), (walk[:3], None, None), steps=2)
        self.check([("exact", (), ("to", (), 5))], (), ([(), ()], None, (0, 1, 0)))
        self.check([("exact", (), ("to", (), 5))], (), ([()], None, None), steps=0)

    def test_the_least_front(self):
        # Both addresses are equal, but the words behind 'a' were never looked at.
        self.check([("open", ("a",), ("to", ("a",), 0))], ("a", "b", "c"), ([("a", "b", "c")] * 2, None, (0, 1, 1)))
        rules = [("open", ("a",), ("to", ("b",), 0)), ("open", ("b", "c"), ("to", ("a", "c"), 0))]
        walk = [("a", "c", "d"), ("b", "c", "d"), ("a", "c", "d")]
        self.check(rules, ("a", "c", "d"), (walk, None, (0, 2, 2)))

    def test_exact_rules_are_joints(self):
        # With the exact rule, whether 'a' stands alone counts, so the front has another word.
        rules = [("open", ("a",), ("to", ("a", "b"), 0)), ("exact", ("a",), ("to", ("a",), 0))]
        self.check(rules, ("a",), ([("a",), ("a",)], None, (0, 1, 1)))
        self.check(rules, ("a", "c"), ([("a", "c"), ("a", "b", "c"), ("a", "b", "b", "c")], None, (1, 2, 2)))

    def test_a_round_that_is_seen_only_later(self):
        # The step from ('b',) looks at all words that there are, and comes again at the place 3 only.
        rules = [("open", ("a",), ("to", (), 0)), ("open", ("b",), ("to", ("a", "b", "a"), 0))]
        walk = [("a", "b"), ("b",), ("a", "b", "a")]
        for steps in (2, 3, 4, 1000):
            self.check(rules, ("a", "b"), (walk, None, (0, 2, 2)), steps=steps)
        for steps in (0, 1):
            self.check(rules, ("a", "b"), (walk[:steps + 1], None, None), steps=steps)

    def test_growing_behind_a_way_that_shrinks(self):
        rules = [("open", ("a",), ("to", (), 0)), ("open", ("b",), ("to", ("c", "a", "a"), 0)),
                 ("open", ("c",), ("to", ("b",), 0))]
        address = ("a", "a", "b")
        walk = [("a", "a", "b"), ("a", "b"), ("b",), ("c", "a", "a"), ("b", "a", "a")]
        self.check(rules, address, (walk, None, (2, 4, 1)))

    def test_a_round_that_uses_up_what_is_behind(self):
        rules = [("open", ("a", "b"), ("to", ("c",), 0)), ("open", ("c",), ("to", ("a",), 0)),
                 ("open", ("a", "d"), ("to", ("a", "b", "d"), 0))]
        walk = [("a", "d"), ("a", "b", "d"), ("c", "d"), ("a", "d")]
        self.check(rules, ("a", "d"), (walk, None, (0, 3, 2)))

    def test_words_that_no_rule_has(self):
        self.check([("open", (), ("to", ("a",), 0)), ("open", ("a",), ("gone",))], ("zz", "y"),
                   ([("zz", "y"), ("a", "zz", "y")], ("gone",), None))
        walk = [("zz", "y"), ("a", "zz", "y"), ("a", "a", "zz", "y")]
        self.check([("open", (), ("to", ("a",), 0))], ("zz", "y"), (walk, None, (1, 2, 1)))

    def test_long_addresses(self):
        rest = ("x",) * 4999
        self.check([("open", ("a",), ("to", ("b",), 0)), ("open", ("b",), ("to", ("a", "a"), 0))], ("a",) + rest,
                   ([("a",) + rest, ("b",) + rest, ("a", "a") + rest], None, (0, 2, 1)))
        walk, end, found = walked(Table([("open", ("x",), ("to", (), 0))]), ("x",) * 5000, steps=5000)
        self.assertEqual((len(walk), end, found), (5001, ("nothing",), None))

    def test_by_name_and_new(self):
        table = Table([("open", ("a",), ("to", ("b",), 0))])
        found = walked(steps=3, address=("a",), table=table)
        self.assertEqual(found, ([("a",), ("b",)], ("nothing",), None))
        found[0].append("x")
        self.assertEqual(walked(table, ("a",), steps=3)[0], [("a",), ("b",)])
        with self.assertRaises(TypeError):
            walked(table, ("a",), 3)

    def test_against_trying_everything(self):
        pick = random.Random(6)
        found = []
        for _ in range(700):
            words = pick.choice(["a", "ab", "abc"])
            table = some_table(pick, words, pick.randrange(1, 9), longest=pick.choice([1, 2, 3]), ends=pick.choice([0, 1]))
            for _ in range(5):
                address = tuple(pick.choice(words + "x") for _ in range(pick.randrange(6)))
                steps = pick.choice([0, 1, 2, 3, 8, 20])
                due = plain_walked(table, address, steps)
                self.assertEqual(walked(table, address, steps=steps), due, (table.rules, address, steps))
                found.append(due[2])
        self.assertGreater(len(set(found)), 25)

    def test_long_rounds_against_trying_everything(self):
        pick = random.Random(7)
        long = 0
        for _ in range(800):
            words = "abcd"[:pick.choice([2, 3, 4])]
            targets = list(all_addresses(words, 2))
            rules = {("open", (word,)): ("open", (word,), ("to", pick.choice(targets), 0)) for word in words}
            rules.update({rule[:2]: rule for rule in some_rules(pick, words, pick.randrange(5), ends=0)})
            address = tuple(pick.choice(words) for _ in range(pick.randrange(7)))
            table = Table(list(rules.values()))
            due = plain_walked(table, address, 30)
            self.assertEqual(walked(table, address, steps=30), due, (table.rules, address))
            if due[2] is not None:
                last = due[2][1]
                long += last > 5
                self.assertEqual(walked(table, address, steps=last), due)
                self.assertEqual(walked(table, address, steps=last - 1), (due[0][:-1], None, None))
        self.assertGreater(long, 10)


class IsRound(unittest.TestCase):
    TABLES = [Table([("open", ("a",), ("to", ("a", "b"), 0)), ("exact", ("c", "d"), ("gone",))])]
    WALK = [("a", "x"), ("a", "b", "x"), ("a", "b", "b", "x"), ("a", "x")]

    def check(self, due, walk=None, tables=None):
        """All triples of small numbers, of which only the due ones are rounds."""
        walk = self.WALK if walk is None else walk
        tables = self.TABLES if tables is None else tables
        found = [(i, j, n) for i in range(-2, 6) for j in range(-2, 6) for n in range(-2, 7)
                 if is_round((i, j, n), walk, tables)]
        self.assertEqual(found, due)

    def test_both_sorts(self):
        self.check([(0, 1, 1), (0, 2, 1), (0, 3, 1), (0, 3, 2), (1, 2, 1), (1, 2, 2)])

    def test_equal_addresses(self):
        self.check([(0, 2, 0)], [(), ("a",), ()])
        # All but the last of the fronts behind ('c',) are joints.
        self.check([(0, 1, 2)], [("c", "d"), ("c", "d")])
        self.check([(0, 1, 1)], [("c",), ("c",)])

    def test_joints_of_all_tables(self):
        walk = [("a", "x"), ("a", "b", "x")]
        self.check([(0, 1, 1)], walk, [Table()])
        self.check([(0, 1, 1)], walk, [])
        self.check([], walk, [Table(), Table([("exact", ("a",), ("gone",))])])
        self.check([], walk, [Table([("open", ("a", "q"), ("gone",))]), Table()])

    def test_the_front_of_the_last_address_may_be_a_joint(self):
        tables = [Table([("exact", ("c", "d"), ("gone",))])]
        self.check([], [("c", "e"), ("c", "d", "e")], tables)
        self.check([(0, 1, 1)], [("e", "x"), ("e", "d", "x")], [Table([("exact", ("f", "d"), ("gone",))])])

    def test_the_words_behind_must_stay(self):
        self.check([], [("a", "x"), ("y",), ("a", "b", "x")], [])
        self.check([(0, 1, 1), (0, 2, 1), (1, 2, 2)], [("a", "x"), ("a", "y", "x"), ("a", "y", "z", "x")], [])
        self.check([(0, 2, 2)], [("a", "x"), ("y",), ("a", "x", "y")], [])

    def test_the_front_must_come_again(self):
        self.check([], [("a", "x"), ("b", "x")], [])
        self.check([], [("a", "b", "x"), ("a", "x")], [])

    def test_short_walks(self):
        self.check([], [])
        self.check([], [("a",)])

    def test_lists(self):
        self.assertIs(is_round((0, 1, 1), [["a", "x"], ["a", "b", "x"]], self.TABLES), True)
        self.assertIs(is_round((0, 1, 1), (("a", "x"), ["a", "b", "x"]), tuple(self.TABLES)), True)

    def test_any_values(self):
        wrong = [[0, 1, 1], (0, 1), (0, 1, 1, 1), (0, 1, True), (False, 1, 1), (0, True, 1), ("0", 1, 1), (0, None, 1),
                 (0, 1, (1,)), (0, 1, -1), (-4, -3, 1), (1, 0, 1), (0, 0, 2), (0, 10 ** 59, 1), (10 ** 59, 1, 1),
                 (0, 1, 10 ** 59), (-10 ** 59, 1, 1), ((0, 1, 1),), {0: 0, 1: 1, 2: 1}, (0, 1, 1.0)]
        for value in (*ANY_VALUES, *wrong):
            self.assertIs(is_round(value, self.WALK, self.TABLES), False)
            self.assertIs(is_round((0, 1, value), self.WALK, self.TABLES), not isinstance(value, bool) and value == 1)
            self.assertIs(is_round((value, 3, 2), self.WALK, self.TABLES), not isinstance(value, bool) and value == 0)
        self.assertIs(is_round(walked(self.TABLES[0], ("a",)), self.WALK, self.TABLES), False)

    def test_by_name_and_nothing_is_changed(self):
        walk, tables = [["a", "x"], ("a", "b", "x")], list(self.TABLES)
        self.assertIs(is_round(tables=tables, walk=walk, value=(0, 1, 1)), True)
        self.assertEqual((walk, tables), ([["a", "x"], ("a", "b", "x")], self.TABLES))

    def test_long_walks(self):
        walk = [("a",) + ("b",) * many for many in range(1000)]
        self.assertIs(is_round((0, 999, 1), walk, self.TABLES), True)
        self.assertIs(is_round((3, 999, 4), walk, self.TABLES), True)
        self.assertIs(is_round((3, 999, 5), walk, self.TABLES), False)

    def test_against_the_plain_words(self):
        pick = random.Random(8)
        for _ in range(400):
            tables = [some_table(pick, "ab", 3) for _ in range(pick.randrange(3))]
            walk = [tuple(pick.choice("ab") for _ in range(pick.randrange(4))) for _ in range(pick.randrange(5))]
            places = plain_joints(tables)
            due = [(i, j, n) for i in range(-2, 6) for j in range(-2, 6) for n in range(-2, 7)
                   if plain_is_round((i, j, n), walk, places)]
            self.check(due, walk, tables)


if __name__ == "__main__":
    unittest.main()
