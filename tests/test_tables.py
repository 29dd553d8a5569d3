"""Point 5 (tables) and point 6: tables, their rules, their answers."""

import random
import unittest

from leadsever.errors import BadPlace, BadRule, BadTable
from leadsever.tables import Table, is_end
from test_rules import ANY_VALUES, deep_tuple

FAQ = ("exact", ("old", "faq"), ("gone",))
OLD = ("open", ("old",), ("to", ("new",), 9))
LETTERS = "abcdefghijklmnopqrstuvwxyz"


def many_rules(count):
    """Rules of different places, in their sequence."""
    places = [(letter,) for letter in LETTERS] + [("a" + letter,) for letter in LETTERS]
    return [("open", place, ("gone",)) for place in sorted(places)[:count]]


class MadeTables(unittest.TestCase):
    def test_no_rules(self):
        for table in (Table(), Table([]), Table(()), Table(rules=[])):
            self.assertEqual(len(table), 0)
            self.assertEqual(table.rules, ())

    def test_lists_and_tuples(self):
        self.assertEqual(Table([OLD, FAQ]).rules, Table((OLD, FAQ)).rules)
        self.assertEqual(Table(rules=[OLD]).rules, (OLD,))

    def test_the_sequence_of_the_rules(self):
        places = [(), ("a",), ("b",), ("zz",), ("a", "a"), ("a", "b"), ("aa", "a"), ("b", "a"),
                  ("a", "a", "a"), ("a", "b", "a", "a")]
        due = [(sort, place, ("gone",)) for place in places for sort in ("exact", "open")]
        mixed = list(due)
        random.Random(5).shuffle(mixed)
        for rules in (due, due[::-1], mixed):
            self.assertEqual(Table(rules).rules, tuple(due))

    def test_answers_change_nothing_in_the_sequence(self):
        first = ("open", ("b",), ("gone",))
        second = ("open", ("a",), ("to", ("z",), 10000))
        self.assertEqual(Table([first, second]).rules, (second, first))

    def test_the_list_is_copied(self):
        rules = [OLD, FAQ]
        table = Table(rules)
        self.assertEqual(rules, [OLD, FAQ])
        rules.append(("open", (), ("gone",)))
        rules[0] = ("open", ("x",), ("gone",))
        self.assertEqual(table.rules, (OLD, FAQ))
        self.assertEqual(table.answer(("old",)), ("to", ("new",), 9))
        self.assertEqual(table.answer(()), ("nothing",))

    def test_40_rules(self):
        table = Table(many_rules(40))
        self.assertEqual(len(table), 40)
        self.assertEqual(table.rules, tuple(many_rules(40)))

    def test_41_rules(self):
        rules = many_rules(41)[::-1]
        for passed in (rules, tuple(rules)):
            with self.assertRaises(BadTable) as caught:
                Table(passed)
            self.assertEqual(caught.exception.value, tuple(rules))
            self.assertIsInstance(caught.exception.value, tuple)
            self.assertTrue(all(one is two for one, two in zip(caught.exception.value, rules)))

    def test_two_rules_of_one_sort_and_place(self):
        for sort in ("exact", "open"):
            first, second = (sort, ("b",), ("gone",)), (sort, ("b",), ("to", (), 1))
            for rules in ([first, second], [second, first], [first, first], [first, OLD, second], (first, first)):
                with self.assertRaises(BadTable) as caught:
                    Table(rules)
                self.assertEqual(caught.exception.value, tuple(rules))
                self.assertIsInstance(caught.exception.value, tuple)

    def test_an_exact_and_an_open_rule_of_one_place(self):
        rules = [("open", ("a",), ("gone",)), ("exact", ("a",), ("gone",))]
        self.assertEqual(len(Table(rules)), 2)

    def test_the_first_value_that_is_no_rule(self):
        for value in ANY_VALUES:
            if value == ("exact", (), ("gone",)):
                continue
            for rules in ([value], [OLD, value], (value, OLD), [FAQ, value, ["x"], None]):
                with self.assertRaises(BadRule) as caught:
                    Table(rules)
                self.assertIs(caught.exception.value, value)

    def test_the_first_of_several(self):
        first, second = ["open", ("a",), ("gone",)], ("exact", ("a",), ["gone"])
        for rules, due in (([first, second], first), ([second, first], second), ([OLD, OLD, second], second)):
            with self.assertRaises(BadRule) as caught:
                Table(rules)
            self.assertIs(caught.exception.value, due)

    def test_bad_rules_are_told_ahead_of_bad_tables(self):
        bad = ("open", ("a",), ("to", (), True))
        for rules in ([OLD, OLD, bad], many_rules(41) + [bad], [bad] + many_rules(45)):
            with self.assertRaises(BadRule) as caught:
                Table(rules)
            self.assertIs(caught.exception.value, bad)


class Compared(unittest.TestCase):
    def test_in(self):
        table = Table([OLD, FAQ])
        self.assertIs(OLD in table, True)
        self.assertIs(FAQ in table, True)
        self.assertIs(tuple(["open", ("o" + "ld",), ("to", ("new",), 9)]) in table, True)
        for other in (("exact", *OLD[1:]), ("open", ("ol",), OLD[2]), ("open", ("old",), ("gone",)),
                      ("open", ("old",), ("to", ("new",), 8)), ("open", ("old",), ("to", ("old",), 9))):
            self.assertIs(other in table, False)

    def test_in_with_any_values(self):
        for table in (Table(), Table([OLD, FAQ])):
            for value in ANY_VALUES:
                self.assertIs(value in table, False)
                self.assertIs(("open", value, ("gone",)) in table, False)
                self.assertIs(("open", ("old",), value) in table, False)
                self.assertIs((value, ("old",), ("to", ("new",), 9)) in table, False)

    def test_true_is_no_day(self):
        for days in (0, 1):
            table = Table([("open", ("a",), ("to", ("b",), days))])
            self.assertIs(("open", ("a",), ("to", ("b",), days)) in table, True)
            self.assertIs(("open", ("a",), ("to", ("b",), bool(days))) in table, False)
            self.assertIs(("open", ("a",), ("to", ("b",), float(days))) in table, False)

    def test_lists_are_no_rules(self):
        table = Table([OLD])
        for value in (list(OLD), ("open", ["old"], OLD[2]), ("open", ("old",), list(OLD[2])),
                      ("open", ("old",), ("to", ["new"], 9))):
            self.assertIs(value in table, False)

    def test_len(self):
        for count in (0, 1, 2, 39, 40):
            self.assertEqual(len(Table(many_rules(count))), count)

    def test_equal(self):
        self.assertIs(Table([OLD, FAQ]) == Table((FAQ, OLD)), True)
        self.assertIs(Table() == Table([]), True)
        self.assertIs(Table([OLD, FAQ]) != Table((FAQ, OLD)), False)

    def test_not_equal(self):
        others = [[], [FAQ], [OLD, ("open", ("old", "faq"), ("gone",))], [OLD, FAQ, ("open", (), ("gone",))],
                  [("open", ("old",), ("to", ("new",), 8)), FAQ], [("open", ("old",), ("gone",)), FAQ]]
        for rules in others:
            self.assertIs(Table([OLD, FAQ]) == Table(rules), False)
            self.assertIs(Table(rules) == Table([OLD, FAQ]), False)

    def test_rules_that_say_the_same_are_not_equal(self):
        whole = Table([("open", (), ("gone",))])
        parts = Table([("open", (), ("gone",)), ("open", ("a",), ("gone",))])
        self.assertIs(whole == parts, False)

    def test_equal_with_any_values(self):
        for table in (Table(), Table([OLD])):
            for value in (*ANY_VALUES, OLD, [OLD], (OLD,), {"rules": (OLD,)}):
                if not isinstance(value, Table):
                    self.assertIs(table == value, False)
        self.assertIs(Table([OLD]) == Table([OLD]).rules, False)
        self.assertIs(Table() == Table().rules, False)


class Changed(unittest.TestCase):
    def test_with_rule_adds(self):
        table = Table([OLD])
        self.assertEqual(table.with_rule(FAQ).rules, (OLD, FAQ))
        self.assertEqual(table.with_rule(rule=("open", (), ("gone",))).rules, (("open", (), ("gone",)), OLD))
        self.assertEqual(table.rules, (OLD,))
        self.assertEqual(table.answer(("old", "faq")), ("to", ("new", "faq"), 9))

    def test_with_rule_replaces(self):
        table = Table([OLD, FAQ])
        other = ("open", ("old",), ("gone",))
        self.assertEqual(table.with_rule(other).rules, (other, FAQ))
        self.assertEqual(table.with_rule(other).answer(("old", "x")), ("gone",))
        self.assertEqual(table.with_rule(OLD), table)
        exact = ("exact", ("old",), ("gone",))
        self.assertEqual(table.with_rule(exact).rules, (exact, OLD, FAQ))
        self.assertEqual(table.rules, (OLD, FAQ))

    def test_with_rule_raises_bad_rule(self):
        for table in (Table(), Table([OLD]), Table(many_rules(40))):
            for value in (*ANY_VALUES, list(OLD), ("open", ("a",), ("to", (), True))):
                if value != ("exact", (), ("gone",)):
                    before = table.rules
                    with self.assertRaises(BadRule) as caught:
                        table.with_rule(value)
                    self.assertIs(caught.exception.value, value)
                    self.assertEqual(table.rules, before)

    def test_with_rule_raises_bad_table(self):
        rules = many_rules(41)
        for index in (0, 20, 40):
            table = Table((rules[:index] + rules[index + 1:])[::-1])
            with self.assertRaises(BadTable) as caught:
                table.with_rule(rules[index])
            self.assertEqual(caught.exception.value, tuple(rules))
            self.assertIsInstance(caught.exception.value, tuple)
            self.assertEqual(len(table), 40)

    def test_with_rule_replaces_in_a_full_table(self):
        rules = many_rules(40)
        other = ("open", rules[7][1], ("to", (), 3))
        self.assertEqual(Table(rules).with_rule(other).rules, (*rules[:7], other, *rules[8:]))
        self.assertEqual(len(Table(rules[:39]).with_rule(rules[39])), 40)

    def test_without(self):
        table = Table([OLD, FAQ, ("exact", ("old",), ("gone",))])
        self.assertEqual(table.without("open", ("old",)).rules, (("exact", ("old",), ("gone",)), FAQ))
        self.assertEqual(table.without(sort="exact", place=("old",)).rules, (OLD, FAQ))
        self.assertEqual(table.without("exact", ("old", "faq")).answer(("old", "faq")), ("to", ("new", "faq"), 9))
        self.assertEqual(len(table), 3)
        self.assertEqual(table.answer(("old", "faq")), ("gone",))
        self.assertEqual(len(Table([OLD]).without("open", ("old",))), 0)
        self.assertEqual(Table([("open", (), ("gone",))]).without("open", ()), Table())

    def test_without_raises_bad_place(self):
        table = Table([OLD, FAQ])
        wrong = [("exact", ("old",)), ("open", ("old", "faq")), ("open", ()), ("open", ("ol",)), ("Open", ("old",)),
                 ("open", ["old"]), ("open", "old"), (["open"], ("old",)), (("old",), "open"), ("page", ("old",)),
                 ("exact", ["old", "faq"]), ("open", ("old", ["faq"])), ("open", ("old",) * 5000)]
        for value in ANY_VALUES:
            wrong.extend([(value, ("old",)), ("open", value), (value, value)])
        wrong.append((deep_tuple(100), deep_tuple(99)))
        for sort, place in wrong:
            with self.assertRaises(BadPlace) as caught:
                table.without(sort, place)
            value = caught.exception.value
            self.assertIsInstance(value, tuple)
            self.assertEqual(len(value), 2)
            self.assertIs(value[0], sort)
            self.assertIs(value[1], place)
        self.assertEqual(table.rules, (OLD, FAQ))
        with self.assertRaises(BadPlace):
            Table().without("open", ())

    def test_the_new_tables_are_tables(self):
        self.assertIsInstance(Table().with_rule(OLD), Table)
        self.assertIsInstance(Table([OLD]).without("open", ("old",)), Table)

    def test_the_rules_are_a_new_tuple(self):
        table = Table([OLD, FAQ])
        self.assertIsInstance(table.rules, tuple)
        self.assertIsNot(table.rules, table.rules)
        with self.assertRaises(AttributeError):
            table.rules = ()


class Answers(unittest.TestCase):
    def test_example(self):
        table = Table([("open", ("old",), ("to", ("new",), 9)), ("exact", ("old", "faq"), ("gone",))])
        found = [table.answer(("old", "x")), table.answer(("old", "faq")), table.answer(("old", "faq", "x"))]
        self.assertEqual(found, [("to", ("new", "x"), 9), ("gone",), ("to", ("new", "faq", "x"), 9)])

    def test_no_rule(self):
        self.assertEqual(Table().answer(()), ("nothing",))
        self.assertEqual(Table().answer(("a",) * 5000), ("nothing",))
        table = Table([FAQ, ("open", ("a", "b"), ("gone",))])
        for address in ((), ("old",), ("old", "faq", "x"), ("faq",), ("a",), ("b",), ("ab",), ("b", "a"),
                        ("x", "a", "b")):
            self.assertEqual(table.answer(address), ("nothing",))
            self.assertIsNone(table.rule_for(address))

    def test_exact_ahead_of_open(self):
        rules = [("open", ("a",), ("section", "s")), ("exact", ("a",), ("page", "p"))]
        for table in (Table(rules), Table(rules[::-1])):
            self.assertEqual(table.answer(("a",)), ("page", "p"))
            self.assertEqual(table.rule_for(("a",)), rules[1])
            self.assertEqual(table.answer(("a", "a")), ("section", "s", ("a",)))
            self.assertEqual(table.rule_for(("a", "a")), rules[0])

    def test_the_place_itself(self):
        table = Table([("open", ("a",), ("section", "s")), ("open", ("b",), ("to", ("c",), 2)), OLD])
        self.assertEqual(table.answer(("a",)), ("section", "s", ()))
        self.assertEqual(table.answer(("b",)), ("to", ("c",), 2))
        self.assertEqual(table.answer(("old",)), ("to", ("new",), 9))

    def test_the_longest_place(self):
        places = [(), ("a",), ("a", "b"), ("a", "b", "c"), ("a", "b", "c", "d")]
        names = ["n", "na", "nb", "nc", "nd"]
        table = Table([("open", place, ("section", name)) for place, name in zip(places, names)])
        address = ("a", "b", "c", "d", "e", "f")
        for size in range(7):
            part = address[:size]
            at = min(size, 4)
            self.assertEqual(table.answer(part), ("section", names[at], part[at:]))
            self.assertEqual(table.rule_for(part), ("open", places[at], ("section", names[at])))
            self.assertEqual(table.answer(part + ("x",)), ("section", names[at], part[at:] + ("x",)))
        self.assertEqual(table.answer(("b", "a")), ("section", "n", ("b", "a")))

    def test_a_gap_in_the_places(self):
        table = Table([("open", (), ("section", "s")), ("open", ("a", "b", "c"), ("gone",))])
        self.assertEqual(table.answer(("a", "b")), ("section", "s", ("a", "b")))
        self.assertEqual(table.answer(("a", "b", "c", "x")), ("gone",))
        self.assertEqual(table.answer(("a", "b", "x", "c")), ("section", "s", ("a", "b", "x", "c")))

    def test_the_place_without_words(self):
        table = Table([("open", (), ("to", ("new",), 0)), ("exact", (), ("page", "home"))])
        self.assertEqual(table.answer(()), ("page", "home"))
        self.assertEqual(table.answer(("a",)), ("to", ("new", "a"), 0))
        self.assertEqual(Table([("open", (), ("to", ("new",), 0))]).answer(()), ("to", ("new",), 0))
        self.assertEqual(Table([("exact", (), ("to", ("new",), 0))]).answer(("a",)), ("nothing",))

    def test_redirects(self):
        table = Table([("open", ("a",), ("to", (), 5)), ("open", ("b", "c"), ("to", ("x", "y", "z", "w"), 10000)),
                       ("exact", ("b", "c"), ("to", ("p", "q"), 7))])
        self.assertEqual(table.answer(("a",)), ("to", (), 5))
        self.assertEqual(table.answer(("a", "b", "a")), ("to", ("b", "a"), 5))
        self.assertEqual(table.answer(("b", "c")), ("to", ("p", "q"), 7))
        self.assertEqual(table.answer(("b", "c", "d")), ("to", ("x", "y", "z", "w", "d"), 10000))

    def test_gone_has_no_rest(self):
        table = Table([("open", ("a",), ("gone",))])
        self.assertEqual(table.answer(("a",)), ("gone",))
        self.assertEqual(table.answer(("a", "b", "c")), ("gone",))

    def test_long_addresses(self):
        table = Table([OLD, ("open", ("s",), ("section", "s"))])
        rest = ("x", "y") * 2499 + ("z",)
        self.assertEqual(table.answer(("old",) + rest), ("to", ("new",) + rest, 9))
        self.assertEqual(table.answer(("s",) + rest), ("section", "s", rest))
        self.assertEqual(table.rule_for(("old",) + rest), OLD)

    def test_lists_may_be_passed(self):
        table = Table([OLD, FAQ])
        for address in ([], ["old"], ["old", "faq"], ["old", "x", "y", "z", "w", "v"]):
            self.assertEqual(table.answer(address), table.answer(tuple(address)))
            self.assertEqual(table.rule_for(address), table.rule_for(tuple(address)))

    def test_by_name(self):
        self.assertEqual(Table([OLD]).answer(address=("old",)), ("to", ("new",), 9))
        self.assertEqual(Table([OLD]).rule_for(address=("old",)), OLD)

    def test_what_is_returned_is_new(self):
        rules = [FAQ, OLD, ("exact", ("a",), ("page", "p")), ("open", ("b",), ("gone",))]
        table = Table(rules)
        for address in (("old", "faq"), ("old",), ("a",), ("b",), ("x",)):
            self.assertIsInstance(table.answer(address), tuple)
            self.assertIsNot(table.answer(address), table.answer(address))
        for rule in rules:
            self.assertIsNot(table.rule_for(rule[1]), rule)

    def test_ends(self):
        for answer in (("page", "p"), ("section", "s", ()), ("section", "to", ("to",)), ("gone",), ("nothing",),
                       ("page", "to")):
            self.assertIs(is_end(answer), True)
        for answer in (("to", (), 0), ("to", ("gone",), 9)):
            self.assertIs(is_end(answer), False)
        self.assertIs(is_end(answer=("gone",)), True)
        self.assertIs(is_end(Table([OLD]).answer(("old",))), False)
        self.assertIs(is_end(Table([OLD]).answer(())), True)


if __name__ == "__main__":
    unittest.main()
